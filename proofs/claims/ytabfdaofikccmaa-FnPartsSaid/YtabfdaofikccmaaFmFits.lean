/- The model's l3Fits and l3Good. -/
import Derived.Test.YtabfdaofikccmaaFmForm
import Derived.Test.YtabfdaofikccmaaFmGoodI
import Derived.Test.YtabfdaofikccmaaFmRoot
import Derived.Test.YtabfdaofikccmaaFmSame
import Derived.Deep.RegionHeld3
namespace Go.Proofs.Ytabfdaofikccmaa
open Go.RowKit
theorem inS_true (x a b : Int) (w : World) (h1 : a ≤ x) (h2 : x ≤ b) : Calls Try.prog 94 #[.int .i64 x, .int .i64 a, .int .i64 b] w fun e w' => e = .returned (.bool true) ∧ w = w' := by
  go_enter Try.func94, Try.ntmps94
  go_wp2
  go_ret
  exact ⟨rfl, rfl⟩
theorem inS_false (x a b : Int) (w : World) (h : x < a ∨ (a ≤ x ∧ b < x)) : Calls Try.prog 94 #[.int .i64 x, .int .i64 a, .int .i64 b] w fun e w' => e = .returned (.bool false) ∧ w = w' := by
  rcases h with h | ⟨h1, h2⟩
  · have h0 : ¬ a ≤ x := by omega
    go_enter Try.func94, Try.ntmps94
    go_wp2
    go_ret
    exact ⟨rfl, rfl⟩
  · have h0 : ¬ x ≤ b := by omega
    go_enter Try.func94, Try.ntmps94
    go_wp2
    go_ret
    exact ⟨rfl, rfl⟩
def capB (nd : Nz) : Bool := decide (nd.1.length ≤ 24) && decide (nd.2.length ≤ 24)
def fitsB (f : List Nz) : Bool := decide (0 < f.length) && (decide (f.length ≤ 120) && f.all capB)
theorem fitsB_iff (f : List Nz) : fitsB f = true ↔ FitsZ f := by
  unfold fitsB FitsZ capB
  simp only [Bool.and_eq_true, decide_eq_true_eq, List.all_eq_true]
theorem bk_nil (w : World) : Bk w.heap.size (w.alloc (.cells #[.slice none 0 0, .slice none 0 0] 101)) w.heap.size [] (bornsOf []) (.slice none 0 0) (.slice none 0 0) [] (fun _ => False) :=
  ⟨by go_simp, by go_simp, by go_simp, by go_simp, Nat.le_refl _, World.ownsRow_nil _ _ _ _, rfl, fun j nd p hj => by simp at hj, World.ownsRow_nil _ _ _ _, by simp [Value.ownBlock], by simp [Value.ownBlock], fun g hg => by simp [Value.ownBlock] at hg⟩
set_option maxHeartbeats 2000000 in
theorem fitsS_calls (v : Value) (f : List Nz) (w : World) (lo hi : Nat) (hh : hi ≤ w.heap.size) (hv : NodesZ w lo hi v f) :
    Calls Try.prog 73 #[.agg #[v]] w fun e w' => e = .returned (.bool (fitsB f)) ∧ Below w.heap.size w w' := by
  have HV := Lib.hid hv
  obtain ⟨ao, c, rfl, hlm, _⟩ := hv
  have HB0 : Hid (Below w.heap.size w (w.alloc (.cells #[.slice ao f.length c] 28))) := Lib.hid ((Below.refl _ _).alloc (Nat.le_refl _) _)
  have hd0 : (w.alloc (.cells #[.slice ao f.length c] 28)).cell? ⟨w.heap.size, 0, none⟩ = some (.slice ao f.length c) := by go_simp
  go_enter Try.func73, Try.ntmps73
  go_wp2
  generalize w.alloc (.cells #[.slice ao f.length c] 28) = W0 at HB0 hd0 ⊢
  go_loopw [3] (fun i wr => ∃ k : Nat, k ≤ f.length ∧ k ≤ 121 ∧ i = .int .i64 k ∧ Hid (∀ m nd, m < k → f[m]? = some nd → capB nd = true) ∧ wr = W0) (fun i _ => f.length - (intOf i).toNat)
  case atStart => exact ⟨0, Nat.zero_le _, by omega, rfl, Lib.hid (fun m nd hm => by omega), rfl⟩
  case round =>
    obtain ⟨k, hk, hk1, rfl, hok, hwr⟩ := hrel
    subst hwr
    by_cases hgo : k < f.length ∧ k ≤ 120
    · obtain ⟨hlt, h120⟩ := hgo
      obtain ⟨nd, hx⟩ := lt_get hlt
      obtain ⟨ao1, c1, e1, _, hn⟩ := HV.out.below HB0.out hh
      obtain ⟨b, off, v1, v2, rfl, hlo, hhi, p1, p2, i1, i2⟩ := hn k nd hx
      obtain ⟨rfl, _, rfl⟩ := slice_inj e1
      obtain ⟨a1, d1, rfl, _, _⟩ := i1
      obtain ⟨a2, d2, rfl, _, _⟩ := i2
      clear hn e1
      have b0 : (0 : Int) ≤ k := by omega
      have b1 : (k : Int) < f.length := by omega
      have b2 : (k : Int) ≤ 120 := by omega
      have hno : Hid (capB nd = false → fitsB f = false) := Lib.hid (fun h => by
        rw [← Bool.not_eq_true, fitsB_iff]
        intro hf
        have := hf.2.2 nd (List.mem_of_getElem? hx)
        unfold capB at h
        rw [decide_eq_true this.1, decide_eq_true this.2] at h
        cases h)
      by_cases h1 : 24 < nd.1.length
      · have h1' : (24 : Int) < nd.1.length := by omega
        have R := Lib.hid (hno.out (by unfold capB; rw [decide_eq_false (by omega)]; rfl))
        clear HV hok hx
        go_wp2
        go_ret
        exact ⟨ret_bool R.out.symm, HB0.out⟩
      · have h1' : ¬ (24 : Int) < nd.1.length := by omega
        by_cases h2 : 24 < nd.2.length
        · have h2' : (24 : Int) < nd.2.length := by omega
          have R := Lib.hid (hno.out (by unfold capB; rw [decide_eq_false (show ¬ nd.2.length ≤ 24 by omega)]; simp))
          clear HV hok hx
          go_wp2
          go_ret
          exact ⟨ret_bool R.out.symm, HB0.out⟩
        · have h2' : ¬ (24 : Int) < nd.2.length := by omega
          have R : Hid (∀ m nd, m < k + 1 → f[m]? = some nd → capB nd = true) := Lib.hid (fun m n0 hm h0 => by
            by_cases e : m = k
            · subst e
              rw [hx] at h0
              injection h0 with h0
              subst h0
              unfold capB
              rw [decide_eq_true (by omega), decide_eq_true (by omega)]
              rfl
            · exact hok.out m n0 (by omega) h0)
          clear HV hok hx
          go_wp2
          go_roundw
          case rel => exact ⟨k + 1, by omega, by omega, by go_num, R, by first | rfl | trivial⟩
          case measure => simp [intOf]; omega
    · have C : Hid (Calls Try.prog 94 #[.int .i64 f.length, .int .i64 1, .int .i64 120] wr fun e w' => e = .returned (.bool (fitsB f)) ∧ wr = w') := Lib.hid (by
        by_cases hin : 0 < f.length ∧ f.length ≤ 120
        · have e : fitsB f = true := by
            rw [fitsB_iff]
            refine ⟨hin.1, hin.2, fun nd hnd => ?_⟩
            obtain ⟨m, hm⟩ := List.getElem?_of_mem hnd
            have := hok.out m nd (by have := get_lt hm; omega) hm
            unfold capB at this
            simpa using this
          rw [e]
          exact inS_true _ _ _ _ (by omega) (by omega)
        · have e : fitsB f = false := by
            rw [← Bool.not_eq_true, fitsB_iff]
            intro hf
            exact hin ⟨hf.1, hf.2.1⟩
          rw [e]
          exact inS_false _ _ _ _ (by omega))
      have hd1 := hd0
      clear HV hok
      by_cases hlt : k < f.length
      · have b1 : (k : Int) < f.length := by omega
        have b2 : ¬ (k : Int) ≤ 120 := by omega
        go_wp2_with fail
        refine C.out.mono ?_
        rintro e w4 ⟨rfl, rfl⟩
        go_wp2
        go_ret
        exact ⟨rfl, HB0.out⟩
      · have b1 : ¬ (k : Int) < f.length := by omega
        go_wp2_with fail
        refine C.out.mono ?_
        rintro e w4 ⟨rfl, rfl⟩
        go_wp2
        go_ret
        exact ⟨rfl, HB0.out⟩
theorem heldOne {wr w' : World} {p : Nat} {v : Value} (h : wr.cell? ⟨p, 0, none⟩ = some v) (hp : p < wr.heap.size) (hb : Below wr.heap.size wr w') : w'.cell? ⟨p, 0, none⟩ = some v ∧ Below wr.heap.size wr w' := ⟨(bcell hb p 0 hp).trans h, hb⟩
set_option maxRecDepth 100000 in
set_option maxHeartbeats 2000000 in
theorem goodS_calls (v : Value) (f : List Nz) (w : World) (lo hi : Nat) (hh : hi ≤ w.heap.size) (hv : NodesZ w lo hi v f) :
    Calls Try.prog 41 #[.agg #[v]] w fun e w' => e = .returned (.bool (goodB f)) ∧ Below w.heap.size w w' := by
  have HV := Lib.hid hv
  have CF := Lib.hid fun (W : World) (hW : Below w.heap.size w W) => fitsS_calls v f W lo hi (by have := hW.size; omega) (hv.below hW hh)
  obtain ⟨ao, c, rfl, hlm, _⟩ := hv
  have HB0 : Hid (Below w.heap.size w (w.alloc (.cells #[.slice ao f.length c] 28))) := Lib.hid ((Below.refl _ _).alloc (Nat.le_refl _) _)
  go_enter Try.func41, Try.ntmps41
  go_wp2_with fail
  refine (CF.out _ HB0.out).mono ?_
  rintro e w1 ⟨rfl, hb1⟩
  have hd1 : w1.cell? ⟨w.heap.size, 0, none⟩ = some (.slice ao f.length c) := (bcell hb1 _ 0 (by simp)).trans (by go_simp)
  have HB1 := Lib.hid (HB0.out.trans (hb1.mono (by simp)))
  clear hb1 CF
  cases hf : fitsB f with
  | false =>
    have R : Hid (goodB f = false) := Lib.hid (by
      rw [← Bool.not_eq_true, goodB_iff]
      intro hg
      rw [(fitsB_iff f).2 hg.1] at hf
      cases hf)
    clear hf HV
    go_wp2
    go_ret
    exact ⟨ret_bool R.out.symm, HB1.out⟩
  | true =>
    have HF := Lib.hid ((fitsB_iff f).1 hf)
    have hl0 := HF.out.1
    have hl1 := HF.out.2.1
    clear hf
    go_wp2
    go_loopw [3] (fun i wr => ∃ k : Nat, k ≤ f.length ∧ i = .int .i64 k ∧ Hid (∀ m nd, m < k → f[m]? = some nd → RisesIn nd.1 0 ((m : Int) - 1) ∧ RisesIn nd.2 0 ((m : Int) - 1)) ∧ Hid (Below w1.heap.size w1 wr)) (fun i _ => f.length - (intOf i).toNat)
    case atStart => exact ⟨0, Nat.zero_le _, rfl, Lib.hid (fun m nd hm => by omega), Lib.hid (Below.refl _ _)⟩
    case round =>
      obtain ⟨k, hk, rfl, hok, hb⟩ := hrel
      have hdl := block_of_cell hd1
      have hd := (bcell hb.out _ 0 hdl).trans hd1
      have HBr : Hid (Below w.heap.size w wr) := Lib.hid (HB1.out.trans (hb.out.mono HB1.out.size))
      by_cases hlt : k < f.length
      · obtain ⟨nd, hx⟩ := lt_get hlt
        obtain ⟨ao1, c1, e1, _, hn⟩ := HV.out.below HBr.out hh
        obtain ⟨b, off, v1, v2, rfl, hlo, hhi, p1, p2, i1, i2⟩ := hn k nd hx
        obtain ⟨rfl, _, rfl⟩ := slice_inj e1
        clear hn e1
        have b0 : (0 : Int) ≤ k := by omega
        have b1 : (k : Int) < f.length := by omega
        have b3 : IntKind.i64.wrap ((k : Int) - 1) = (k : Int) - 1 := IntWalk.i64_in _ (by omega)
        have C1 := Lib.hid (l1Rising_calls v1 nd.1 0 ((k : Int) - 1) wr lo hi i1 (by omega) (by omega))
        have C2 := Lib.hid fun m => l1Rising_calls v2 nd.2 0 ((k : Int) - 1) (wr.drewN m) lo hi i2 (by omega) (by omega)
        have HX := Lib.hid hx
        have hno : Hid ((risesB nd.1 0 ((k : Int) - 1) = false ∨ risesB nd.2 0 ((k : Int) - 1) = false) → goodB f = false) := Lib.hid (fun h => by
          rw [← Bool.not_eq_true, goodB_iff]
          intro hg
          have := hg.2.1 k nd HX.out
          rw [← risesB_iff, ← risesB_iff] at this
          rcases h with h | h
          · rw [h] at this; cases this.1
          · rw [h] at this; cases this.2)
        have hp1 := p1
        have hp2l := block_of_cell p2
        have R1 : Hid (risesB nd.1 0 ((k : Int) - 1) = true → risesB nd.2 0 ((k : Int) - 1) = true → ∀ m nd, m < k + 1 → f[m]? = some nd → RisesIn nd.1 0 ((m : Int) - 1) ∧ RisesIn nd.2 0 ((m : Int) - 1)) := Lib.hid (fun h1 h2 m n0 hm h0 => by
          by_cases e : m = k
          · subst e
            rw [HX.out] at h0
            injection h0 with h0
            subst h0
            exact ⟨(risesB_iff _ _ _).1 h1, (risesB_iff _ _ _).1 h2⟩
          · exact hok.out m n0 (by omega) h0)
        clear hx i1 i2 hok
        generalize hr1 : risesB nd.1 0 ((k : Int) - 1) = r1 at C1 hno R1
        generalize hr2 : risesB nd.2 0 ((k : Int) - 1) = r2 at C2 hno R1
        clear hr1 hr2
        cases r1 with
        | false =>
          have R := Lib.hid (hno.out (Or.inl rfl))
          clear hno
          go_wp2_with (fail)
          refine (C1.out).mono ?_
          rintro e wa ⟨rfl, m, hwa⟩
          have HBa : Hid (Below w.heap.size w wa) := Lib.hid (by rw [hwa]; exact below_drewN HBr.out m)
          clear hwa
          go_wp2_with (fail)
          go_ret
          exact ⟨ret_bool R.out.symm, HBa.out⟩
        | true =>
          go_wp2_with (fail)
          refine (C1.out).mono ?_
          rintro e wa ⟨rfl, m, hwa⟩
          have HBa : Hid (Below w1.heap.size w1 wa) := Lib.hid (by rw [hwa]; exact below_drewN hb.out m)
          have hd4 := (show wa.cell? ⟨w.heap.size, 0, none⟩ = wr.cell? ⟨w.heap.size, 0, none⟩ from by rw [hwa]; rfl).trans hd
          have p4 : wa.cell? ⟨b, off + k * 2 + 1, none⟩ = some v2 := by rw [hwa]; exact p2
          have C4 := Lib.hid (C2.out m)
          rw [← hwa] at C4
          clear hwa C2
          cases r2 with
          | false =>
            have R := Lib.hid (hno.out (Or.inr rfl))
            clear hno
            go_wp2_with (fail)
            refine (C4.out).mono ?_
            rintro e wb ⟨rfl, m, hwb⟩
            have HBb : Hid (Below w.heap.size w wb) := Lib.hid (by rw [hwb]; exact below_drewN (HB1.out.trans (HBa.out.mono HB1.out.size)) m)
            clear hwb
            go_wp2_with (fail)
            go_ret
            exact ⟨ret_bool R.out.symm, HBb.out⟩
          | true =>
            have R := Lib.hid (R1.out (by simp) (by simp))
            clear hno
            go_wp2_with (fail)
            refine (C4.out).mono ?_
            rintro e wb ⟨rfl, m, hwb⟩
            have HBb : Hid (Below w1.heap.size w1 wb) := Lib.hid (by rw [hwb]; exact below_drewN HBa.out m)
            clear hwb
            go_wp2
            go_roundw
            case rel => exact ⟨k + 1, by omega, by go_num, R, HBb⟩
            case measure => simp [intOf]; omega
      · have b1 : ¬ (k : Int) < f.length := by omega
        have HST : Hid (StructZ f) := Lib.hid (fun m nd hm => hok.out m nd (by have := get_lt hm; omega) hm)
        clear hok
        have HUP := Lib.hid HST.out.up
        have HGD : Hid (decide (((fo (addF [] (f.map downN)).1 ((addF [] (f.map downN)).2.getD ((f.map downN).length - 1) 0) (bOf (addF [] (f.map downN)).1 ((addF [] (f.map downN)).2.getD ((f.map downN).length - 1) 0) + 1)).2.map upN) = f) = goodB f) := Lib.hid (by
          rw [Bool.eq_iff_iff, decide_eq_true_iff, goodB_iff]
          exact goodZ_iff f HF.out HST.out)
        have hl2 : (f.map downN).length = f.length := by simp
        have ha := addF_added [] book_nil (f.map downN) HUP.out.2.under
        obtain ⟨nl, hnl⟩ := lt_get (l := f.map downN) (i := (f.map downN).length - 1) (by omega)
        have hroot := get_lt (ha.node _ nl hnl)
        have hlenC := (addF_len [] (f.map downN)).2
        rw [hl2] at hlenC
        have hlims : ∀ nd ∈ f.map downN, nd.1.length ≤ 90000 ∧ nd.2.length ≤ 90000 := fun nd hnd => by
          obtain ⟨n0, h0, rfl⟩ := List.mem_map.1 hnd
          have := HF.out.2.2 n0 h0
          unfold downN downL
          simp
          omega
        have hwz := HBr.out.size
        have hwlt : w.heap.size < wr.heap.size := block_of_cell hd
        have HVr := Lib.hid fun (W : World) (hW : Below wr.heap.size wr W) => (show NodesZ W lo hi (.slice ao f.length c) ((f.map downN).map upN) from by rw [HUP.out.1]; exact (HV.out.below HBr.out hh).below hW (by omega))
        have HVs := Lib.hid fun (W : World) (hW : Below wr.heap.size wr W) => (HV.out.below HBr.out hh).below hW (by omega)
        have hbx : Below wr.heap.size wr (wr.alloc (.cells #[.slice none 0 0, .slice none 0 0] 101)) := (Below.refl _ _).alloc (Nat.le_refl _) _
        have CR := Lib.hid fun (W : World) (hW : Below (wr.alloc (.cells #[.slice none 0 0, .slice none 0 0] 101)).heap.size (wr.alloc (.cells #[.slice none 0 0, .slice none 0 0] 101)) W) =>
          root_calls wr.heap.size wr.heap.size [] (.slice none 0 0) (.slice none 0 0) [] (.slice ao f.length c) (f.map downN) W lo hi (by omega) ((bk_nil wr).below hW) book_nil (HVr.out W (hbx.trans (hW.mono (by simp)))) HUP.out.2.under (by omega) (by simp; omega) hlims
        have CF := Lib.hid fun (W : World) (vn vb : Value) (vs : List (Value × Value)) (hK : Bk wr.heap.size W wr.heap.size (addF [] (f.map downN)).1 (bornsOf (addF [] (f.map downN)).1) vn vb vs (fun _ => False)) =>
          form_calls wr.heap.size wr.heap.size (addF [] (f.map downN)).1 vn vb vs (fun _ => False) ((addF [] (f.map downN)).2.getD ((f.map downN).length - 1) 0) W hK ha.book hroot (by simp at hlenC; omega)
        have HRB := Lib.hid fun (W W' : World) (hW : Below (wr.alloc (.cells #[.slice none 0 0, .slice none 0 0] 101)).heap.size (wr.alloc (.cells #[.slice none 0 0, .slice none 0 0] 101)) W) (ho : Only W W' (Foot wr.heap.size (.slice none 0 0) (.slice none 0 0))) =>
          (hbx.trans (hW.mono (by simp))).trans (ho.below (by have := hW.size; simp at this; omega) (fun g hg => by
            rcases hg with rfl | hg | hg
            · exact Nat.le_refl _
            · simp [Value.ownBlock] at hg
            · simp [Value.ownBlock] at hg))
        have hbd : Hid (Below (wr.alloc (.cells #[.slice none 0 0, .slice none 0 0] 101)).heap.size (wr.alloc (.cells #[.slice none 0 0, .slice none 0 0] 101)) (wr.alloc (.cells #[.slice none 0 0, .slice none 0 0] 101)).drew) := Lib.hid (below_drewN (Below.refl _ _) 1)
        have hS0 := heldOne hd hwlt (hbx.trans (hbd.out.mono (by simp)))
        generalize (addF [] (f.map downN)).1 = C at CR CF HGD
        generalize (addF [] (f.map downN)).2.getD ((f.map downN).length - 1) 0 = rt at CR CF HGD
        generalize hFO : (fo C rt (bOf C rt + 1)).2 = FO at CF HGD
        clear hFO ha hnl hroot hlenC hlims HUP HF HST hl2 hb HV
        go_upto_region 9 with fail
        go_region_held3 (fun w' : World => w'.cell? ⟨w.heap.size, 0, none⟩ = some (.slice ao f.length c) ∧ Below wr.heap.size wr w') (first | exact hS0 | (go_split_ands; exact ⟨‹_›, ‹_›⟩) | exact heldOne hd hwlt hbC | exact heldOne hd hwlt hbB | exact heldOne hd hwlt hbA) (first
          | (go_at_call 56; (with_reducible refine (l3Same_calls _ _ (FO.map upN) f wb wa.heap.size wb.heap.size lo hi (Nat.le_refl _) (by have := hbB.size; omega) hnz (HVs.out wb hbB)).mono ?_); rintro e wc ⟨rfl, hbc⟩; have hbC := hbB.trans (hbc.mono hbB.size))
          | (go_at_call 75; (with_reducible refine (CF.out wa _ _ _ hka).mono ?_); rintro e wb ⟨vF, rfl, hnz, hbb⟩; have hbB := hbA.trans (hbb.mono hbA.size))
          | (go_at_call 76; (with_reducible refine (CR.out _ hbd.out).mono ?_); rintro e wa ⟨rfl, vn', vb', vs', hka, hoa, hfa⟩; have hbA := HRB.out _ _ hbd.out hoa))
        all_goals
          rename_i hH
          go_wp2_with fail
          go_ret
          exact ⟨ret_bool HGD.out, HBr.out.trans (hbC.mono hwz)⟩

end Go.Proofs.Ytabfdaofikccmaa
