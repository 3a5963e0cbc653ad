/- The negative of a form: its nodes with their sides exchanged. -/
import Derived.Test.YtbphepgffnlloaaInOf
import Derived.Test.YtbphepgffnlloaaFmSnoc
import Derived.Test.YtbphepgffnlloaaInForm
import Derived.Test.YtbphepgffnlloaaBkAt
import Derived.Deep.RegionHeld3
namespace Go.Proofs.Ytbphepgffnlloaa
section
set_option linter.unusedVariables false
set_option linter.unusedSimpArgs false

def swapN (P : List Nd) : List Nd := P.map (fun nd => (nd.2, nd.1))
theorem swapN_len (P : List Nd) : (swapN P).length = P.length := by simp [swapN]
theorem swapN_at {P : List Nd} {k : Nat} {nd : Nd} (h : P[k]? = some nd) : (swapN P)[k]? = some (nd.2, nd.1) := by unfold swapN; rw [List.getElem?_map, h]; rfl
theorem swapN_get {P : List Nd} {k : Nat} {nd : Nd} (h : (swapN P)[k]? = some nd) : P[k]? = some (nd.2, nd.1) := by
  unfold swapN at h
  rw [List.getElem?_map] at h
  cases hx : P[k]? with
  | none => rw [hx] at h; cases h
  | some x => rw [hx] at h; simp only [Option.map_some, Option.some.injEq] at h; subst h; rfl
theorem swapN_under {P : List Nd} (h : Under P) : Under (swapN P) := fun k nd hk x hx => h k _ (swapN_get hk) x hx.symm
theorem swapN_used {P : List Nd} (h : Used P) : Used (swapN P) := fun i hi => by
  obtain ⟨k, nd, hk, hx⟩ := h i (by rw [swapN_len] at hi; exact hi)
  exact ⟨k, _, swapN_at hk, hx.symm⟩
theorem swapN_reach {P : List Nd} (hu : Under P) (h : Used P) (k : Nat) (hk : k < (swapN P).length) : Reached (swapN P) ((swapN P).length - 1) k := reached_used (swapN_under hu) (swapN_used h) k hk

/-- a form in order is no greater than the nodes that it is made of -/
theorem canon_fits {P : List Nd} {b : Nat → Nat} {out : List Nd} {pl : Nat → Nat} (h : Canon P b (fun _ => True) out pl) (hp : ∀ nd ∈ P, nd.1.length ≤ 24 ∧ nd.2.length ≤ 24) : out.length ≤ P.length ∧ ∀ nd ∈ out, nd.1.length ≤ 24 ∧ nd.2.length ≤ 24 := by
  have hsl : ∀ (l : List Nat), (sortd l).length ≤ l.length := fun l => by
    have hn : (sortd l).Nodup := (sortd_asc l).imp (fun h => Nat.ne_of_lt h)
    exact hn.length_le_of_subset (fun x hx => (mem_sortd l x).1 hx)
  constructor
  · have hn : (List.range out.length).Nodup := List.nodup_range
    have := hn.length_le_of_subset (l₂ := (List.range P.length).map pl) (fun i hi => by
      obtain ⟨k, h1, _, h3⟩ := h.from' i (by simpa using hi)
      exact List.mem_map.2 ⟨k, by simpa using h1, h3⟩)
    simpa using this
  · intro nd hnd
    obtain ⟨i, hi⟩ := List.mem_iff_getElem?.1 hnd
    obtain ⟨k, h1, _, h3⟩ := h.from' i (get_lt hi)
    obtain ⟨m, hm⟩ := lt_get h1
    have := h.node k m hm trivial
    rw [h3, hi] at this
    injection this with this
    subst this
    have := hp m (List.mem_of_getElem? hm)
    unfold movd
    have a1 := hsl (m.1.map pl)
    have a2 := hsl (m.2.map pl)
    simp only [List.length_map] at a1 a2
    exact ⟨by show (sortd (m.1.map pl)).length ≤ 24; omega, by show (sortd (m.2.map pl)).length ≤ 24; omega⟩

/-- the negative of a good form is one -/
theorem neg_fits (f : List Nz) (hg : goodB f = true) : fitsN (formM (swapN (f.map downN))) = true := by
  obtain ⟨h1, h2, h3, h4⟩ := (goodB_iff f).1 hg
  have hu := h2.up.2.under
  have hl : 0 < (swapN (f.map downN)).length := by rw [swapN_len]; simpa using h1.1
  obtain ⟨⟨pl, hc⟩, hs, _, _⟩ := formM_canon _ (swapN_under hu) hl (swapN_reach hu h4)
  have hf := canon_fits hc (fun nd hnd => by
    unfold swapN at hnd
    rw [List.map_map] at hnd
    obtain ⟨x, hx, rfl⟩ := List.mem_map.1 hnd
    have := h1.2.2 x hx
    simp only [Function.comp, downN, downL, List.length_map]
    exact ⟨this.2, this.1⟩)
  have hpos : 0 < (formM (swapN (f.map downN))).length := by
    obtain ⟨nd, hnd⟩ := lt_get hl
    exact Nat.lt_of_le_of_lt (Nat.zero_le _) (get_lt (hc.node 0 nd hnd trivial))
  unfold fitsN
  simp only [Bool.and_eq_true, decide_eq_true_eq, List.all_eq_true]
  have := h1.2.1
  rw [swapN_len, List.length_map] at hf
  exact ⟨hpos, by omega, fun nd hnd => by simpa using hf.2 nd hnd⟩

/-- the negative, or nothing -/
def negV (f : List Nz) : List Nz := if goodB f then (formM (swapN (f.map downN))).map upN else []
theorem negV_yes {f : List Nz} (h : goodB f = true) : negV f = (formM (swapN (f.map downN))).map upN := by unfold negV; rw [h]; rfl
theorem negV_no {f : List Nz} (h : goodB f = false) : negV f = [] := by unfold negV; rw [h]; rfl

/-- a form within its limits has so many numbers at the most -/
theorem fits_sz {out : List Nd} (h : fitsN out = true) : ((out.map upN).map szN).sum ≤ 5760 := by
  unfold fitsN at h
  simp only [Bool.and_eq_true, decide_eq_true_eq, List.all_eq_true] at h
  have := sum_szN_le out (fun nd hnd => by simpa using h.2.2 nd hnd)
  omega
theorem outV_sz (P : List Nd) : ((outV P).map szN).sum ≤ 5760 := by
  unfold outV
  split
  · rename_i h; exact fits_sz h
  · simp
theorem negV_sz (f : List Nz) : ((negV f).map szN).sum ≤ 5760 := by
  unfold negV
  split
  · rename_i h; exact fits_sz (neg_fits f h)
  · simp
end

section
open Go.RowKit
set_option linter.unusedVariables false
set_option linter.unusedSimpArgs false

set_option maxRecDepth 100000 in
set_option maxHeartbeats 1000000 in
theorem negI_calls (va : Value) (f g : List Nz) (ok : Bool) (hok : Hid (goodB f = ok)) (hg : Hid (negV f = g)) (w : World) (lo hi : Nat) (hh : hi ≤ w.heap.size) (hva : NodesZ w lo hi va f) :
    Calls Try.prog 33 #[.agg #[va]] w fun e w' => ∃ a c vs, e = .returned (.tuple #[.agg #[.slice a g.length c], .bool ok]) ∧ OwnF w' w.heap.size (.slice a g.length c) vs g ∧ Below w.heap.size w w' := by
  obtain ⟨iN, hiN, hzN0, hzN1, hzN2⟩ := info_parts infoNodeA
  have HB0 := Lib.hid fun o o' => show Below w.heap.size w ((w.alloc o).alloc o') from ((Below.refl _ _).alloc (Nat.le_refl _) _).alloc (by simp) _
  have CG := Lib.hid fun (W : World) (hW : Below w.heap.size w W) => goodI_res va f ok hok W lo hi (Nat.le_trans hh hW.size) (hva.below hW hh)
  have HVA := Lib.hid fun (W : World) (hW : Below w.heap.size w W) => hva.below hW hh
  obtain ⟨ao, c0, rfl⟩ : ∃ ao c, va = .slice ao f.length c := by obtain ⟨ao, c, e, _⟩ := hva; exact ⟨ao, c, e⟩
  clear hva
  go_enter Try.func33, Try.ntmps33
  go_wp2_with fail
  refine (CG.out _ (HB0.out _ _)).mono ?_
  rintro e w4 ⟨rfl, hb4⟩
  have k0 : w4.cell? ⟨w.heap.size, 0, none⟩ = some (.slice ao f.length c0) := (bcell hb4 _ _ (by simp; omega)).trans (by go_simp)
  obtain ⟨d0, z0⟩ : BoxAt w4 (w.heap.size + 1) (.slice none 0 0) := BoxAt.below ⟨by go_simp, by go_simp⟩ hb4
  have HB4 := Lib.hid (Below.trans (HB0.out _ _) (hb4.mono (by simp; omega)))
  have hlt := block_of_cell d0
  clear hb4 CG
  cases ok with
  | false =>
    obtain rfl : g = [] := by rw [← hg.out, negV_no hok.out]
    have B4 := Lib.hid (HB4.out.setCell (p := ⟨w.heap.size + 1, 0, none⟩) (by show w.heap.size ≤ w.heap.size + 1; omega) (.slice none 0 0))
    have hcr := World.cell?_setCell_same w4 ⟨w.heap.size + 1, 0, none⟩ (.slice none 0 0) d0
    go_wp2_with fail
    exact bodyPost_ret (v := .tuple #[.agg #[.slice none 0 0], .bool false]) (by simp [results, Try.results33, go_sem, hcr]) rfl ⟨none, 0, [], rfl, OwnF.nil _ _, B4.out⟩
  | true =>
    obtain ⟨hf1, hf2, hf3, hf4⟩ := (goodB_iff f).1 hok.out
    have hfl := hf1.2.1
    have HU := Lib.hid hf2.up.2.under
    have HUP := Lib.hid hf2.up.1
    have HUS := Lib.hid hf4
    have HSM := Lib.hid hf1.2.2
    have hpos := hf1.1
    have HGV : Hid ((formM (swapN (f.map downN))).map upN = g) := Lib.hid (by rw [← hg.out, negV_yes hok.out])
    have HFT := Lib.hid (neg_fits f hok.out)
    clear hf1 hf2 hf3 hf4 hok hg
    go_wp2_with (at_make; refine wpList_make_full _ rfl _ _ 24 rfl w4.heap.size 63 iN (.agg #[.slice none 0 0, .slice none 0 0]) 2 Try.underlying24 hiN hzN0 hzN1 _ _ _ _ f.length rfl rfl (by first | rfl | (simp; done)) (by first | rfl | (simp; done)) (by rw [hzN2]; omega) (by unfold maxLen; omega) (Nat.le_refl _) ?_; intro w5 hown hgr; have hb45 : Below w4.heap.size w4 w5 := (Below.refl _ _).grown hgr (Nat.le_refl _) (fun k hk => by cases hk); have k5 := (bcell hb45 _ _ (block_of_cell k0)).trans k0)
    have HR := Lib.hid (RowZ.made (F := (swapN (f.map downN)).map upN) hown)
    have HB5 := Lib.hid (HB4.out.trans (hb45.mono HB4.out.size))
    have b5 : BoxAt w5 (w.heap.size + 1) (.slice none 0 0) := BoxAt.below ⟨d0, z0⟩ hb45
    have hgw := (World.ownsRow.lt hown _ rfl).2
    have hs4 := HB4.out.size
    have HX5 := Lib.hid b5
    clear hown hgr hb45 k0 d0 z0 b5 HB4
    go_wp2
    go_loopw [18] (fun i wr => ∃ (k : Nat) (vs : List (Value × Value)), k ≤ f.length ∧ i = .int .i64 k ∧ Hid (RowZ wr w4.heap.size w4.heap.size f.length vs ((swapN (f.map downN)).map upN) k) ∧ Hid (Below w.heap.size w wr) ∧ Hid (BoxAt wr (w.heap.size + 1) (.slice none 0 0)) ∧ w4.heap.size < wr.heap.size) (fun i _ => f.length - (intOf i).toNat)
    case atStart => exact ⟨0, _, Nat.zero_le _, rfl, HR, HB5, HX5, hgw⟩
    case round =>
      obtain ⟨k, vs, hk, rfl, hr, hb, hx, hs⟩ := hrel
      clear HR HB5 HX5
      by_cases hlt2 : k < f.length
      · obtain ⟨nd, hnd⟩ := lt_get (l := f.map downN) (i := k) (by simpa using hlt2)
        obtain ⟨b, off, cc, v1, v2, e, hbh, p1, p2, i1, i2⟩ := nodes_atP (by rw [HUP.out]; exact HVA.out wr hb.out) hnd
        rw [show (f.map downN).length = f.length from by simp] at e
        obtain ⟨q1, q2, q3⟩ := slice_inj e
        clear q2
        subst q1 q3
        obtain ⟨a1, d1, rfl, hd1⟩ := ints_lenP i1
        obtain ⟨a2, d2, rfl, hd2⟩ := ints_lenP i2
        obtain ⟨po, hpo, m1, m2, mf1, mf2⟩ := hr.out.cells hlt2
        have hs5 := hb.out.size
        have X1 : IntsX wr w4.heap.size (.slice a1 nd.1.length d1) (upL nd.1) := ⟨lo, hi, Nat.le_trans hh hs5, Or.inr (by omega), i1⟩
        have X2 : IntsX wr w4.heap.size (.slice a2 nd.2.length d2) (upL nd.2) := ⟨lo, hi, Nat.le_trans hh hs5, Or.inr (by omega), i2⟩
        have ho1 : Only wr ((wr.setCell ⟨w4.heap.size, k * 2, none⟩ (.slice a2 nd.2.length d2)).setCell ⟨w4.heap.size, k * 2 + 1, none⟩ (.slice a1 nd.1.length d1)) (fun q => q = w4.heap.size) := (Only.of_set (F := fun q => q = w4.heap.size) (p := ⟨w4.heap.size, k * 2, none⟩) _ rfl).trans (Only.of_set (F := fun q => q = w4.heap.size) (p := ⟨w4.heap.size, k * 2 + 1, none⟩) _ rfl) (fun _ _ h => h)
        have hal : RowKit.Below ((wr.setCell ⟨w4.heap.size, k * 2, none⟩ (.slice a2 nd.2.length d2)).setCell ⟨w4.heap.size, k * 2 + 1, none⟩ (.slice a1 nd.1.length d1)).heap.size ((wr.setCell ⟨w4.heap.size, k * 2, none⟩ (.slice a2 nd.2.length d2)).setCell ⟨w4.heap.size, k * 2 + 1, none⟩ (.slice a1 nd.1.length d1)) (((wr.setCell ⟨w4.heap.size, k * 2, none⟩ (.slice a2 nd.2.length d2)).setCell ⟨w4.heap.size, k * 2 + 1, none⟩ (.slice a1 nd.1.length d1)).alloc (.cells #[.slice a1 nd.1.length d1, .slice a2 nd.2.length d2] 63)) := (RowKit.Below.refl _ _).alloc (Nat.le_refl _) _
        have R3 := Lib.hid ((hr.out.set (k := k) (nd := upN (nd.2, nd.1)) (p := (.slice a2 nd.2.length d2, .slice a1 nd.1.length d1)) hlt2 (by rw [List.getElem?_map, swapN_at hnd]; rfl) X2 X1).below hal)
        have ho : Only wr (((wr.setCell ⟨w4.heap.size, k * 2, none⟩ (.slice a2 nd.2.length d2)).setCell ⟨w4.heap.size, k * 2 + 1, none⟩ (.slice a1 nd.1.length d1)).alloc (.cells #[.slice a1 nd.1.length d1, .slice a2 nd.2.length d2] 63)) (fun q => q = w4.heap.size) := ho1.trans (Only.of_below hal) (fun _ _ h => h)
        have B3 := Lib.hid (hb.out.trans (ho.below hs5 (fun q e => by omega)))
        have X3 := Lib.hid (hx.out.only ho (by omega))
        have S3 := ho.size
        have k0 : (0 : Int) ≤ k := by omega
        have k1 : (k : Int) < f.length := by omega
        clear e i1 i2 X1 X2 hal ho ho1 hr hb hx hnd hpo
        go_wp2
        go_roundw
        case rel => exact ⟨k + 1, _, by omega, by go_num, R3, B3, X3, by omega⟩
        case measure => first | (simp [intOf]; done) | (simp [intOf]; omega)
      · have hke : k = f.length := by omega
        subst hke
        have hsl : (swapN (f.map downN)).length = f.length := by rw [swapN_len, List.length_map]
        have C := Lib.hid (formOf_calls (.slice (some ⟨w4.heap.size, 0, none⟩) f.length f.length) (swapN (f.map downN)) g true wr 0 wr.heap.size (Nat.le_refl _) (hr.out.nodesZ (by rw [List.length_map, hsl])) (swapN_under HU.out) (by omega) (swapN_reach HU.out HUS.out) (by omega) (fun nd hnd => by
          unfold swapN at hnd
          rw [List.map_map] at hnd
          obtain ⟨x, hx, rfl⟩ := List.mem_map.1 hnd
          have := HSM.out x hx
          simp only [Function.comp, downN, downL, List.length_map]
          omega) HFT (Lib.hid (by rw [outV_yes HFT.out, HGV.out])))
        have hbx := hx.out
        have hsb := hb.out.size
        have HB := Lib.hid hb.out
        clear hr hb hsl
        go_wp2_with fail
        refine C.out.mono ?_
        rintro e w6 ⟨a, c, vs6, rfl, ho6, hb6⟩
        obtain ⟨d6, z6⟩ : BoxAt w6 (w.heap.size + 1) (.slice none 0 0) := BoxAt.below hbx hb6
        have HO : Hid (OwnF (w6.setCell ⟨w.heap.size + 1, 0, none⟩ (.slice a g.length c)) w.heap.size (.slice a g.length c) vs6 g) := Lib.hid ((ho6.setCell (by show w.heap.size + 1 < wr.heap.size; omega)).mono hsb)
        have HB6 : Hid (RowKit.Below w.heap.size w (w6.setCell ⟨w.heap.size + 1, 0, none⟩ (.slice a g.length c))) := Lib.hid ((HB.out.trans (hb6.mono hsb)).setCell (by show w.heap.size ≤ w.heap.size + 1; omega) _)
        have hcr := World.cell?_setCell_same w6 ⟨w.heap.size + 1, 0, none⟩ (.slice a g.length c) d6
        clear ho6 hb6 hbx C
        go_wp2_with fail
        exact bodyPost_ret (v := .tuple #[.agg #[.slice a g.length c], .bool true]) (by simp [results, Try.results33, go_sem, hcr]) rfl ⟨a, c, vs6, rfl, HO.out, HB6.out⟩
end

section
open Go.RowKit
set_option linter.unusedVariables false
set_option linter.unusedSimpArgs false

theorem form_is (P : List Nd) : (fo (addF [] P).1 ((addF [] P).2.getD (P.length - 1) 0) (bOf (addF [] P).1 ((addF [] P).2.getD (P.length - 1) 0) + 1)).2 = formM P := rfl

theorem take_snoc' {α : Type} {P : List α} {k : Nat} {nd : α} (h : P[k]? = some nd) : P.take (k + 1) = P.take k ++ [nd] := by rw [List.take_add_one, h]; rfl

theorem at_lt' (P : List Nd) (hu : Under P) (i : Nat) (hi : i < P.length) : (addF [] P).2.getD i 0 < (addF [] P).1.length := by
  have ha := addF_added [] book_nil P hu
  obtain ⟨n0, hn0⟩ := lt_get hi
  exact get_lt (ha.node i n0 hn0)

set_option maxRecDepth 100000 in
set_option maxHeartbeats 8000000 in
theorem l5Neg_calls (vf : Value) (f : List Nd) (w : World) (lo hi : Nat) (hh : hi ≤ w.heap.size) (hv : NodesZ w lo hi vf (f.map upN)) (hf : Under f) (h0 : 0 < f.length) (hn : f.length ≤ 90000) (hl : ∀ nd ∈ f, nd.1.length ≤ 90000 ∧ nd.2.length ≤ 90000) :
    Calls Try.prog 71 #[.agg #[vf]] w fun e w' => ∃ v, e = .returned (.agg #[v]) ∧ NodesZ w' w.heap.size w'.heap.size v ((formM (swapN f)).map upN) ∧ Below w.heap.size w w' := by
  have HV := Lib.hid fun (W : World) (hW : Below w.heap.size w W) => hv.below hW hh
  have HF := Lib.hid hf
  have HL := Lib.hid hl
  have hfs := swapN_under hf
  have HFS := Lib.hid hfs
  have hsl := swapN_len f
  have HSL := Lib.hid hsl
  obtain ⟨aof, cof, hvs⟩ : ∃ a c, vf = .slice a f.length c := by obtain ⟨a, c, e, _⟩ := hv; exact ⟨a, c, by rw [e]; simp⟩
  subst hvs
  have e0 : ((w.alloc (.cells #[.slice aof f.length cof] 26)).alloc (.cells #[.slice none 0 0] 26)).heap.size = w.heap.size + 2 := by simp
  have hst := BkAt.start ((w.alloc (.cells #[.slice aof f.length cof] 26)).alloc (.cells #[.slice none 0 0] 26))
  rw [e0] at hst
  have HST := Lib.hid hst
  have HB0 : Hid (Below w.heap.size w ((((w.alloc (.cells #[.slice aof f.length cof] 26)).alloc (.cells #[.slice none 0 0] 26)).alloc (.cells #[.slice none 0 0, .slice none 0 0] 76)).alloc (.cells #[] 3))) :=
    Lib.hid (((((Below.refl _ _).alloc (Nat.le_refl _) _).alloc (by simp) _).alloc (by simp; omega) _).alloc (by simp; omega) _)
  clear hl hf hfs hv hst e0
  go_enter Try.func71, Try.ntmps71
  go_wp2
  go_loopw [4, 5] (fun q i wr => ∃ (k ga ca : Nat) (vn vb : Value) (vs : List (Value × Value)), k ≤ f.length ∧ i = .int .i64 k ∧ q = .slice (some ⟨ga, 0, none⟩) k ca ∧ Hid (BkAt (w.heap.size + 2) wr ((swapN f).take k) ga ca vn vb vs) ∧
      Hid (Below w.heap.size w wr) ∧ Hid (BoxAt wr (w.heap.size + 1) (.slice none 0 0)) ∧ wr.cell? ⟨w.heap.size, 0, none⟩ = some (.slice aof f.length cof)) (fun _ i _ => f.length - (intOf i).toNat)
  case atStart => exact ⟨0, w.heap.size + 2 + 1, 0, _, _, _, Nat.zero_le _, rfl, rfl, by rw [List.take_zero]; exact HST, HB0, Lib.hid ⟨by go_simp, by go_simp⟩, by go_simp⟩
  case round =>
    obtain ⟨k, ga, ca, vn, vb, vs, hk, rfl, rfl, hK, hb, hx, hbox⟩ := hrel
    clear HST HB0
    by_cases hlt : k < f.length
    · obtain ⟨nd, hnd⟩ := lt_get hlt
      obtain ⟨b, off, cc, v1, v2, e, hbh, p1, p2, i1, i2⟩ := nodes_atP (HV.out wr hb.out) hnd
      obtain ⟨q1, q2, q3⟩ := slice_inj e
      clear q2
      subst q1 q3
      have hsw : (swapN f)[k]? = some (nd.2, nd.1) := swapN_at hnd
      have HTS := Lib.hid (take_snoc' hsw)
      have htl : ((swapN f).take k).length = k := by rw [List.length_take, HSL.out]; omega
      have HTU := Lib.hid (under_take HFS.out k)
      have hnn := HL.out nd (List.mem_of_getElem? hnd)
      have hux := HF.out k nd hnd
      have hbs := hb.out.size
      have hks := hK.out.size
      have hga := hK.out.lt
      obtain ⟨P, hP⟩ : ∃ P, (swapN f).take k = P := ⟨_, rfl⟩
      rw [hP] at hK htl HTS HTU
      have C1 := Lib.hid fun (W : World) (hW : RowKit.Below wr.heap.size wr W) => hK.out.l3At_calls (by omega) W hW v2 nd.2 lo hi (by have := hW.size; omega) (i2.below hW (by omega)) hnn.2 (fun x hx => by rw [htl]; exact hux x (Or.inr hx))
      have C2 := Lib.hid fun (W : World) (hW : RowKit.Below wr.heap.size wr W) => hK.out.l3At_calls (by omega) W hW v1 nd.1 lo hi (by have := hW.size; omega) (i1.below hW (by omega)) hnn.1 (fun x hx => by rw [htl]; exact hux x (Or.inl hx))
      have C3 := Lib.hid fun (W : World) (hW : RowKit.Below wr.heap.size wr W) (vl vr : Value) (l1 h1 l2 h2 : Nat) (hh1 : h1 ≤ W.heap.size) (hh2 : h2 ≤ W.heap.size) hvl hvr => hK.out.put_calls HTU.out (by omega) W hW vl vr nd.2 nd.1 l1 h1 l2 h2 hh1 hh2 hvl hvr (fun x hx => by rw [htl]; exact hux x (Or.inr hx)) (fun x hx => by rw [htl]; exact hux x (Or.inl hx)) hnn.2 hnn.1
      have HOWN := Lib.hid hK.out.own
      rw [htl] at C1 C2 HOWN
      obtain ⟨su, hsu⟩ : ∃ su, seatAt P nd.2 nd.1 = su := ⟨_, rfl⟩
      rw [hsu] at C3
      have HSU := Lib.hid hsu
      have HTL := Lib.hid htl
      have HPP := Lib.hid hP
      have hnf := Lib.hid hK.out.nf
      have HOW := Lib.hid fun (W : World) (hW : RowKit.Below wr.heap.size wr W) => own_only HOWN.out (Only.of_below (F := fun _ => False) hW) (fun _ _ => id)
      have hbd : Hid (RowKit.Below wr.heap.size wr wr.drew) := Lib.hid (below_drewN (RowKit.Below.refl _ _) 1)
      have nb0 : Hid (¬ Foot (w.heap.size + 2) vn vb w.heap.size) := Lib.hid (fun hF => by have := (hK.out.bk.lt _ hF).1; omega)
      have nb1 : Hid (¬ Foot (w.heap.size + 2) vn vb b) := Lib.hid (fun hF => by have := (hK.out.bk.lt _ hF).1; omega)
      have hS0 : AddS w.heap.size b (off + k * 2) (.slice (some ⟨b, off, none⟩) f.length cof) v1 v2 wr.drew := ⟨hbox, p1, p2⟩
      have b0 : (0 : Int) ≤ k := by omega
      have b1 : (k : Int) < f.length := by omega
      obtain ⟨ar1, nr1, cr1, hvr1⟩ : ∃ a n c, v1 = .slice a n c := by obtain ⟨a, c, e, _⟩ := i1; exact ⟨a, _, c, e⟩
      obtain ⟨ar2, nr2, cr2, hvr2⟩ : ∃ a n c, v2 = .slice a n c := by obtain ⟨a, c, e, _⟩ := i2; exact ⟨a, _, c, e⟩
      subst hvr1 hvr2
      clear e i1 i2 hnd hsw htl hsu hP hnn hux
      go_wp2
      go_region_held3 (fun w' : World => w'.cell? ⟨w.heap.size, 0, none⟩ = some (.slice (some ⟨b, off, none⟩) f.length cof) ∧ w'.cell? ⟨b, off + k * 2, none⟩ = some (.slice ar1 nr1 cr1) ∧ w'.cell? ⟨b, off + k * 2 + 1, none⟩ = some (.slice ar2 nr2 cr2)) (first | exact hS0 | (go_split_ands; exact ⟨‹_›, ‹_›, ‹_›⟩) | (go_split_ands; exact addS_only HAPP.out (by omega) (by omega) ⟨‹_›, ‹_›, ‹_›⟩) | (go_split_ands; exact addS_below ((RowKit.Below.refl _ _).alloc (Nat.le_refl _) _) ⟨‹_›, ‹_›, ‹_›⟩) | (go_split_ands; exact addS_only ho6 nb0.out nb1.out ⟨‹_›, ‹_›, ‹_›⟩) | (go_split_ands; exact addS_below hb5 ⟨‹_›, ‹_›, ‹_›⟩) | (go_split_ands; exact addS_below hb4 ⟨‹_›, ‹_›, ‹_›⟩)) (first
        | (go_at_call 85; (with_reducible refine (C3.out w5 HB5 _ _ _ _ _ _ (Nat.le_refl _) (Nat.le_refl _) (hi1.below hb5 (Nat.le_refl _) |>.wide (Nat.le_refl _) hb5.size) hi2).mono ?_); rintro e w6 ⟨rfl, vn', vb', vs', hK6, ho6, hf6⟩)
        | (go_at_call 101; (with_reducible refine (C1.out _ hbd.out).mono ?_); rintro e w4 ⟨g1, c1, rfl, hi1, hb4⟩; have HB4 : RowKit.Below wr.heap.size wr w4 := hbd.out.trans hb4)
        | (go_at_call 101; (with_reducible refine (C2.out w4 HB4).mono ?_); rintro e w5 ⟨g2, c2, rfl, hi2, hb5⟩; have HB5 : RowKit.Below wr.heap.size wr w5 := HB4.trans (hb5.mono HB4.size); have HO6 := HOW.out w5 HB5)
        | (refine step_app_at rfl _ _ rfl (World.ownsRow.alloc (own_only HO6 ho6 (fun g e => by injection e with e; subst e; exact hnf.out)) _) rfl (B := w6.heap.size) (u := su) (by go_simp) rfl (by omega) (by simp; have := ho6.size; have := HB5.size; omega) ?_; intro v7 w7 hown7 hgrow7 hat7; have HAPP : Hid (Only _ w7 (fun g => g = ga)) := Lib.hid (Only.of_grown hgrow7 (fun g e => by injection e with e; exact e.symm))))
      all_goals
        obtain ⟨g7, c7, rfl, HK7, HO7, HB7⟩ := hK.out.next HB5 hK6 ho6 hf6 (by rw [HTL.out, HSU.out]; exact hown7) (by rw [HTL.out, HSU.out]; exact hgrow7) (by rw [HTL.out, HSU.out]; exact hat7)
        rw [HTL.out]
        have K7 : Hid (BkAt (w.heap.size + 2) w7 ((swapN f).take (k + 1)) g7 c7 vn' vb' vs') := Lib.hid (by rw [HTS.out]; exact HK7.out)
        have B7 : Hid (RowKit.Below w.heap.size w w7) := Lib.hid (hb.out.trans (HB7.out.mono (by omega)))
        have hwlt := block_of_cell hbox
        have X7 : Hid (BoxAt w7 (w.heap.size + 1) (.slice none 0 0)) := Lib.hid (hx.out.only HO7.out (fun h => by
          rcases h with h | h
          · have := (hK.out.bk.lt _ h).1; omega
          · omega))
        have hbox7 := (HO7.out.cell (o := 0) hwlt (fun h => by
          rcases h with h | h
          · exact nb0.out h
          · omega)).trans hbox
        clear hown7 hgrow7 hat7 HAPP hK6 ho6 hf6 HK7 HO7 HB7 hb hx hK hS0 hbox p1 p2
        go_wp2
        go_roundw
        case rel => exact ⟨k + 1, g7, c7, vn', vb', vs', by omega, by go_num, rfl, K7, B7, X7, hbox7⟩
        case measure => simp [intOf]; omega
    · have hkl : k = f.length := by omega
      subst hkl
      rw [show (swapN f).take f.length = swapN f from List.take_of_length_le (by rw [HSL.out]; omega)] at hK
      obtain ⟨z, hz⟩ := lt_get (l := (addF [] (swapN f)).2) (i := f.length - 1) (by rw [at_len, HSL.out]; omega)
      have HZ : Hid ((addF [] (swapN f)).2.getD ((swapN f).length - 1) 0 = z) := Lib.hid (by rw [HSL.out, List.getD_eq_getElem?_getD, hz]; rfl)
      have hbk := (addF_added [] book_nil (swapN f) HFS.out).book
      have hzl : z < (addF [] (swapN f)).1.length := by
        rw [← HZ.out]
        exact at_lt' _ HFS.out _ (by rw [HSL.out]; omega)
      have hal := (addF_len [] (swapN f)).2
      have hown := hK.out.own
      rw [HSL.out] at hown hal
      have hcz : wr.cell? ⟨ga, f.length - 1, none⟩ = some (.int .i64 (z : Int)) := by
        rw [World.ownsRow.cellAt hown (f.length - 1) (by omega), List.getElem?_map, hz]
        rfl
      have CF := Lib.hid (form_calls (w.heap.size + 2) (w.heap.size + 2) (addF [] (swapN f)).1 vn vb vs (fun g => g = ga) z wr hK.out.bk hbk hzl (by simp at hal; omega))
      have HFI := Lib.hid (form_is (swapN f))
      rw [HZ.out] at HFI
      rw [HFI.out] at CF
      obtain ⟨G, hG⟩ : ∃ G, (formM (swapN f)).map upN = G := ⟨_, rfl⟩
      rw [hG] at CF
      have HGG := Lib.hid hG
      have hn1 : IntKind.i64.wrap ((f.length : Int) - 1) = (f.length : Int) - 1 := IntWalk.i64_in _ (by omega)
      have hn2 : (0 : Int) ≤ (f.length : Int) - 1 := by omega
      have hn3 : (f.length : Int) - 1 < f.length := by omega
      have hn4 : ((f.length : Int) - 1).toNat = f.length - 1 := by omega
      have hbs := hb.out.size
      have hlt1 := block_of_cell hx.out.1
      clear hz hzl hbk hal hown hK hG
      go_wp2_with fail
      refine CF.out.mono ?_
      rintro e w5 ⟨v, rfl, hn5, hb5⟩
      obtain ⟨d5, z5⟩ := hx.out.below hb5
      have HB5 : Hid (RowKit.Below w.heap.size w (w5.setCell ⟨w.heap.size + 1, 0, none⟩ v)) := Lib.hid ((hb.out.trans (hb5.mono hbs)).setCell (by show w.heap.size ≤ w.heap.size + 1; omega) _)
      have HN : Hid (NodesZ (w5.setCell ⟨w.heap.size + 1, 0, none⟩ v) w.heap.size (w5.setCell ⟨w.heap.size + 1, 0, none⟩ v).heap.size v G) := Lib.hid ((NodesZ.keep hn5 (fun b o h1 h2 => World.cell?_setCell_other _ _ _ _ (fun e => by injection e with e _ _; omega))).wide hbs (by simp))
      have hcr := World.cell?_setCell_same w5 ⟨w.heap.size + 1, 0, none⟩ v d5
      obtain ⟨av, cv, rfl, _⟩ := (show ∃ a c, v = .slice a G.length c ∧ True from by obtain ⟨a, c, e, _⟩ := hn5; exact ⟨a, c, e, trivial⟩)
      clear hn5 hb5 CF hx hb
      go_wp2_with fail
      refine bodyPost_ret (v := .agg #[.slice av G.length cv]) (by simp [results, Try.results71, go_sem, hcr]) rfl ?_
      rw [HGG.out]
      exact ⟨_, rfl, HN.out, HB5.out⟩

/-- as the program's -/
theorem negS_calls (va : Value) (f g : List Nz) (ok : Bool) (hok : Hid (goodB f = ok)) (hg : Hid (negV f = g)) (w : World) (lo hi : Nat) (hh : hi ≤ w.heap.size) (hva : NodesZ w lo hi va f) :
    Calls Try.prog 32 #[.agg #[va]] w fun e w' => ∃ a c, e = .returned (.tuple #[.agg #[.slice a g.length c], .bool ok]) ∧ NodesZ w' w.heap.size w'.heap.size (.slice a g.length c) g ∧ Below w.heap.size w w' := by
  have HB0 := Lib.hid fun o o' => show Below w.heap.size w ((w.alloc o).alloc o') from ((Below.refl _ _).alloc (Nat.le_refl _) _).alloc (by simp) _
  have CG := Lib.hid fun (W : World) (hW : Below w.heap.size w W) => show Calls Try.prog 51 #[.agg #[va]] W fun e w' => e = .returned (.bool ok) ∧ Below W.heap.size W w' from by
    rw [← hok.out]
    exact goodS_calls va f W lo hi (Nat.le_trans hh hW.size) (hva.below hW hh)
  have HVA := Lib.hid fun (W : World) (hW : Below w.heap.size w W) => hva.below hW hh
  obtain ⟨ao, c0, rfl⟩ : ∃ ao c, va = .slice ao f.length c := by obtain ⟨ao, c, e, _⟩ := hva; exact ⟨ao, c, e⟩
  clear hva
  go_enter Try.func32, Try.ntmps32
  go_wp2_with fail
  refine (CG.out _ (HB0.out _ _)).mono ?_
  rintro e w4 ⟨rfl, hb4⟩
  have k0 : w4.cell? ⟨w.heap.size, 0, none⟩ = some (.slice ao f.length c0) := (bcell hb4 _ _ (by simp; omega)).trans (by go_simp)
  obtain ⟨d0, z0⟩ : BoxAt w4 (w.heap.size + 1) (.slice none 0 0) := BoxAt.below ⟨by go_simp, by go_simp⟩ hb4
  have HB4 := Lib.hid (Below.trans (HB0.out _ _) (hb4.mono (by simp; omega)))
  have hlt := block_of_cell d0
  clear hb4 CG
  cases ok with
  | false =>
    obtain rfl : g = [] := by rw [← hg.out, negV_no hok.out]
    have B4 := Lib.hid (HB4.out.setCell (p := ⟨w.heap.size + 1, 0, none⟩) (by show w.heap.size ≤ w.heap.size + 1; omega) (.slice none 0 0))
    have hcr := World.cell?_setCell_same w4 ⟨w.heap.size + 1, 0, none⟩ (.slice none 0 0) d0
    go_wp2_with fail
    exact bodyPost_ret (v := .tuple #[.agg #[.slice none 0 0], .bool false]) (by simp [results, Try.results32, go_sem, hcr]) rfl ⟨none, 0, rfl, ⟨none, 0, rfl, by simp, fun j nd hj => by simp at hj⟩, B4.out⟩
  | true =>
    obtain ⟨hf1, hf2, _, _⟩ := (goodB_iff f).1 hok.out
    have C := Lib.hid (l5Neg_calls (.slice ao f.length c0) (f.map downN) w4 lo hi (Nat.le_trans hh HB4.out.size) (by rw [hf2.up.1]; exact HVA.out w4 HB4.out) hf2.up.2.under (by simpa using hf1.1) (by have := hf1.2.1; simp; omega) (downN_small hf1))
    rw [show (formM (swapN (f.map downN))).map upN = g from by rw [← hg.out, negV_yes hok.out]] at C
    clear hf1 hf2 hok hg
    go_wp2_with fail
    refine C.out.mono ?_
    rintro e w6 ⟨v, rfl, hn6, hb6⟩
    obtain ⟨a, c, rfl, _⟩ := (show ∃ a c, v = .slice a g.length c ∧ True from by obtain ⟨a, c, e, _⟩ := hn6; exact ⟨a, c, e, trivial⟩)
    obtain ⟨d6, z6⟩ : BoxAt w6 (w.heap.size + 1) (.slice none 0 0) := BoxAt.below ⟨d0, z0⟩ hb6
    have HN : Hid (NodesZ (w6.setCell ⟨w.heap.size + 1, 0, none⟩ (.slice a g.length c)) w.heap.size (w6.setCell ⟨w.heap.size + 1, 0, none⟩ (.slice a g.length c)).heap.size (.slice a g.length c) g) := Lib.hid ((NodesZ.keep hn6 (fun b o h1 h2 => World.cell?_setCell_other _ _ _ _ (fun e => by injection e with e _ _; omega))).wide HB4.out.size (by simp))
    have HB6 : Hid (Below w.heap.size w (w6.setCell ⟨w.heap.size + 1, 0, none⟩ (.slice a g.length c))) := Lib.hid ((HB4.out.trans (hb6.mono HB4.out.size)).setCell (by show w.heap.size ≤ w.heap.size + 1; omega) _)
    have hcr6 := World.cell?_setCell_same w6 ⟨w.heap.size + 1, 0, none⟩ (.slice a g.length c) d6
    clear hn6 hb6 C d0 z0
    go_wp2_with fail
    exact bodyPost_ret (v := .tuple #[.agg #[.slice a g.length c], .bool true]) (by simp [results, Try.results32, go_sem, hcr6]) rfl ⟨a, c, rfl, HN.out, HB6.out⟩
end

end Go.Proofs.Ytbphepgffnlloaa
