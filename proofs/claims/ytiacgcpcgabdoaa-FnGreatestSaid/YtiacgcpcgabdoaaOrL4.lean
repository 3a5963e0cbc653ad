/- The model's l4Of and l4Geq. -/
import Derived.Test.YtiacgcpcgabdoaaOrGeq
import Derived.Test.YtiacgcpcgabdoaaFmRootN
import Derived.Deep.Onto
namespace Go.Proofs.Ytiacgcpcgabdoaa
open Go.RowKit
set_option linter.unusedVariables false
set_option linter.unusedSimpArgs false

set_option maxRecDepth 100000 in
set_option maxHeartbeats 2000000 in
theorem l4Of_calls (base B : Nat) (C : List Nd) (bs : List Nat) (vn vb : Value) (vs : List (Value × Value)) (w : World) (h : Bk base w B C bs vn vb vs (fun _ => False)) (h0 : 0 < C.length) (hl : C.length ≤ 1000) :
    Calls Try.prog 64 #[.pointer (some ⟨B, 0, none⟩)] w fun e w' => ∃ O g n, e = .returned (.pointer (some ⟨O, 0, none⟩)) ∧ Od w' base O B g n C bs vn vb vs ∧ RowK base g n (List.replicate (C.length * C.length) 0) w' ∧ Below w.heap.size w w' := by
  obtain ⟨i0, hi0, hz0, hz1, hz2⟩ := info_parts infoIntA
  obtain ⟨nx, hnx⟩ := lt_get h0
  obtain ⟨gn, cn, _, hvn, _, _, _, _, _⟩ := h.node hnx
  obtain ⟨n, hn⟩ : ∃ n, C.length * C.length = n := ⟨_, rfl⟩
  have hni : (C.length : Int) * (C.length : Int) = (n : Int) := by rw [← hn]; simp
  have hnb : n ≤ 1000000 := by rw [← hn]; exact Nat.le_trans (Nat.mul_le_mul hl hl) (by omega)
  have kb := h.c0
  have HK := Lib.hid h
  rw [hvn] at kb
  rw [hn]
  clear hn hvn hnx h
  go_enter Try.func64, Try.ntmps64
  go_wp2_with fail
  obtain ⟨w1, hm, hown, hg⟩ := run_make_full (P := Try.prog) w.drew base 40 3 i0 (.int .i64 0) 1 Try.underlying40 hi0 hz0 hz1 .i64 .i64 n (by rw [hz2]; omega) (by unfold maxLen; omega) (by have := HK.out.lt B (Or.inl rfl); show base ≤ w.heap.size; omega)
  have HOWN := Lib.hid hown
  have HG := Lib.hid hg
  have hz : w1.heap.size = w1.heap.size := rfl
  have hwn : IntKind.i64.wrap (n : Int) = (n : Int) := IntWalk.i64_in _ (by omega)
  clear hown hg hz
  have HB1 : Hid (Below w.heap.size w (w1.alloc (.cells #[.pointer (some ⟨B, 0, none⟩), .slice (some ⟨w.heap.size, 0, none⟩) n n] 123))) := Lib.hid (by
    have h1 : Below w.heap.size w w1 := (below_drewN (Below.refl w.heap.size w) 1).grown HG.out (Nat.le_refl _) (fun k hk => by cases hk)
    exact h1.alloc h1.size _)
  have HR : Hid (RowK base w.heap.size n (List.replicate n 0) (w1.alloc (.cells #[.pointer (some ⟨B, 0, none⟩), .slice (some ⟨w.heap.size, 0, none⟩) n n] 123))) := Lib.hid (by
    have e : (madeCells (Value.int .i64 0).cells (n * 1)).toList = (List.replicate n 0).map (Value.int .i64) := by
      rw [List.map_replicate, Nat.mul_one]
      exact made_one' _ n
    have h1 := HOWN.out
    rw [e] at h1
    exact World.ownsRow.alloc h1 _)
  have hs1 : w.heap.size < w1.heap.size := (World.ownsRow.lt HOWN.out _ rfl).2
  have HOD : Hid (Od (w1.alloc (.cells #[.pointer (some ⟨B, 0, none⟩), .slice (some ⟨w.heap.size, 0, none⟩) n n] 123)) base w1.heap.size B w.heap.size n C bs vn vb vs) := Lib.hid
    ⟨by go_simp, by go_simp, (HK.out.reX (Y := fun b => b = w.heap.size) (fun b hb e => by omega)).below HB1.out, by omega, fun hF => by have := (HK.out.lt _ hF).2; omega⟩
  clear HOWN HG
  go_region_with (fail)
  all_goals
    go_wp2_with fail
    go_ret
    exact ⟨w1.heap.size, w.heap.size, n, rfl, HOD.out, HR.out, HB1.out⟩

/-- two games in one book -/
def twoC (f g : List Nz) : List Nd := (addF (bkF f) (g.map downN)).1
def twoY (f g : List Nz) : Nat := (addF (bkF f) (g.map downN)).2.getD ((g.map downN).length - 1) 0
def geTwo (f g : List Nz) : Bool := geF (twoC f g) (rtF f) (twoY f g)

theorem two_added (f g : List Nz) (hf : StructZ f) (hg : StructZ g) : Added (bkF f) (g.map downN) (twoC f g) (addF (bkF f) (g.map downN)).2 := addF_added (bkF f) (bkF_added f hf).book (g.map downN) hg.up.2.under

theorem two_node (f g : List Nz) (hf : StructZ f) (hg : StructZ g) : ∀ i nd, (f.map downN)[i]? = some nd → (twoC f g)[(addF [] (f.map downN)).2.getD i 0]? = some (movd (fun x => (addF [] (f.map downN)).2.getD x 0) nd) := fun i nd h =>
  get_pre (two_added f g hf hg).pre ((bkF_added f hf).node i nd h)

theorem geTwo_left (f g : List Nz) (hf : StructZ f) (hg : StructZ g) (h0 : 0 < f.length) (h1 : 0 < g.length) (w : Bool) (hw : winF (f.map downN) (g.map downN) (f.length - 1) (g.length - 1) false = w) : geTwo f g = !w := by
  have e1 : (f.map downN).length = f.length := by simp
  have e2 : (g.map downN).length = g.length := by simp
  have h := win_ge (f.map downN) (g.map downN) (twoC f g) (fun i => (addF [] (f.map downN)).2.getD i 0) (fun i => (addF (bkF f) (g.map downN)).2.getD i 0) hf.up.2.under hg.up.2.under (two_added f g hf hg).book.struct.under (two_node f g hf hg) (two_added f g hf hg).node
    (f.length - 1 + (g.length - 1) + 1) (f.length - 1) (g.length - 1) (by omega) (by omega) (by omega)
  rw [← hw, h.1]
  unfold geTwo rtF twoY
  rw [e1, e2]

theorem geTwo_right (f g : List Nz) (hf : StructZ f) (hg : StructZ g) (h0 : 0 < f.length) (h1 : 0 < g.length) (w : Bool) (hw : winF (f.map downN) (g.map downN) (f.length - 1) (g.length - 1) true = w) : geTwo g f = !w := by
  have e1 : (f.map downN).length = f.length := by simp
  have e2 : (g.map downN).length = g.length := by simp
  have h := win_ge (f.map downN) (g.map downN) (twoC g f) (fun i => (addF (bkF g) (f.map downN)).2.getD i 0) (fun i => (addF [] (g.map downN)).2.getD i 0) hf.up.2.under hg.up.2.under (two_added g f hg hf).book.struct.under (two_added g f hg hf).node (two_node g f hg hf)
    (f.length - 1 + (g.length - 1) + 1) (f.length - 1) (g.length - 1) (by omega) (by omega) (by omega)
  rw [← hw, h.2]
  unfold geTwo rtF twoY
  rw [e1, e2]

theorem two_len (f g : List Nz) : (twoC f g).length ≤ f.length + g.length := by
  have h1 := bkF_len f
  have h2 := (addF_len (bkF f) (g.map downN)).2
  unfold twoC
  simp at h2
  omega

theorem two_places (f g : List Nz) (hf : StructZ f) (hg : StructZ g) (h0 : 0 < f.length) (h1 : 0 < g.length) : rtF f < (twoC f g).length ∧ twoY f g < (twoC f g).length := by
  have e2 : (g.map downN).length = g.length := by simp
  constructor
  · obtain ⟨x, hx⟩ := lt_get (rtF_lt f hf h0)
    exact get_lt (get_pre (two_added f g hf hg).pre hx)
  · obtain ⟨nl, hnl⟩ := lt_get (l := g.map downN) (i := (g.map downN).length - 1) (by omega)
    exact get_lt ((two_added f g hf hg).node _ nl hnl)

set_option maxRecDepth 100000 in
set_option maxHeartbeats 2000000 in
theorem l4Geq_calls (va vb : Value) (f g : List Nz) (r : Bool) (hr : Hid (geTwo f g = r)) (w : World) (lo hi lo' hi' : Nat) (hh : hi ≤ w.heap.size) (hh' : hi' ≤ w.heap.size) (hva : NodesZ w lo hi va f) (hvb : NodesZ w lo' hi' vb g) (hf1 : FitsZ f) (hf2 : StructZ f) (hg1 : FitsZ g) (hg2 : StructZ g) :
    Calls Try.prog 36 #[.agg #[va], .agg #[vb]] w fun e w' => e = .returned (.bool r) ∧ Below w.heap.size w w' := by
  go_enter Try.func36, Try.ntmps36
  have k1 : ((w.alloc (.cells #[va] 26)).alloc (.cells #[vb] 26)).cell? ⟨w.heap.size, 0, none⟩ = some va := by go_simp
  have k2 : ((w.alloc (.cells #[va] 26)).alloc (.cells #[vb] 26)).cell? ⟨w.heap.size + 1, 0, none⟩ = some vb := by go_simp
  have hb : Below w.heap.size w ((w.alloc (.cells #[va] 26)).alloc (.cells #[vb] 26)) := ((Below.refl _ _).alloc (Nat.le_refl _) _).alloc (by simp) _
  go_upto_region 1 with fail
  generalize ((w.alloc (.cells #[va] 26)).alloc (.cells #[vb] 26)) = W at k1 k2 hb
  have hwz := hb.size
  have HB := Lib.hid hb
  have CR := Lib.hid fun X hX => rootNil_calls va f W lo hi (by omega) (hva.below hb hh) hf1 hf2 X hX
  have HVB := Lib.hid fun X (hX : Below W.heap.size W X) => (hvb.below hb hh').below hX (by omega)
  have hba : Below W.heap.size W (W.alloc (.cells #[.slice none 0 0, .slice none 0 0] 93)) := (Below.refl _ _).alloc (Nat.le_refl _) _
  have d1 := (bcell hba _ _ (block_of_cell k1)).trans k1
  have l1 := block_of_cell k1
  have l2 := block_of_cell k2
  clear hva hvb hb
  go_wp2_with fail
  refine (CR.out _ (Below.refl _ _)).mono ?_
  rintro e w4 ⟨rfl, ⟨vn, vbb, vs, hK⟩, hb4⟩
  have d2 := (bcell hb4 _ _ l2).trans k2
  have HB4 := Lib.hid hb4
  have hs4 := hb4.size
  have HK4 := Lib.hid hK
  have HKL := Lib.hid hK.lt
  have e2 : (g.map downN).length = g.length := by simp
  have hbk := (bkF_added f hf2).book
  have hlen : (bkF f).length + (g.map downN).length ≤ 90000 := by have := bkF_len f; have := hf1.2.1; have := hg1.2.1; rw [e2]; omega
  have CR2 := Lib.hid (root_calls W.heap.size W.heap.size (bkF f) vn vbb vs vb (g.map downN) w4 lo' hi' (by omega) hK hbk (by rw [hg2.up.1]; exact HVB.out w4 hb4) hg2.up.2.under (by rw [e2]; exact hg1.1) hlen (downN_small hg1))
  have HRD : Hid (∀ w5, Only w4 w5 (Foot W.heap.size vn vbb) → Below W.heap.size W w5) := Lib.hid (fun w5 ho => hb4.trans (ho.below hs4 (fun x hx => (HKL.out x hx).1)))
  clear hK hb4 d1 hba CR hlen hbk
  go_wp2_with fail
  refine CR2.out.mono ?_
  rintro e w5 ⟨rfl, vn5, vb5, vs5, hK5, ho5, _⟩
  have HB5 := Lib.hid (HRD.out w5 ho5)
  have hpl := two_places f g hf2 hg2 hf1.1 hg1.1
  have htl : (twoC f g).length ≤ 1000 := by have := two_len f g; have := hf1.2.1; have := hg1.2.1; omega
  have hund : Under (twoC f g) := (two_added f g hf2 hg2).book.struct.under
  have CO := Lib.hid fun X (hX : Below w5.heap.size w5 X) => l4Of_calls W.heap.size W.heap.size (twoC f g) (bornsOf (twoC f g)) vn5 vb5 vs5 X (hK5.below hX) (by omega) htl
  have hs5 := HB5.out.size
  have CG := Lib.hid fun X O gg n (hO : Od X W.heap.size O W.heap.size gg n (twoC f g) (bornsOf (twoC f g)) vn5 vb5 vs5) (hrow : RowK W.heap.size gg n (List.replicate ((twoC f g).length * (twoC f g).length) 0) X) (hX : Below W.heap.size W X) => show Calls Try.prog 65 #[.pointer (some ⟨O, 0, none⟩), .int .i64 (rtF f : Nat), .int .i64 (twoY f g : Nat)] X fun e w' => e = .returned (.bool r) ∧ Below w.heap.size w w' from by
    refine (geq_calls W.heap.size O W.heap.size gg n (twoC f g) (bornsOf (twoC f g)) vn5 vb5 vs5 hund htl (rtF f + twoY f g + 1) (rtF f) (twoY f g) (List.replicate ((twoC f g).length * (twoC f g).length) 0) X (by omega) hpl.1 hpl.2 hO (Rt.zero _ _ _) hrow).mono ?_
    rintro e w' ⟨he, ht⟩
    refine ⟨by rw [he]; unfold geTwo at hr; rw [hr.out], HB.out.trans ((hX.trans (ht.only.below hX.size (fun b e => ?_))).mono hwz)⟩
    have hlt : W.heap.size ≤ gg := (World.ownsRow.lt hrow gg rfl).1
    omega
  have eY : (addF (bkF f) (List.map downN g)).2.getD ((List.map downN g).length - 1) 0 = twoY f g := rfl
  rw [eY]
  clear hK5 ho5 CR2 HRD HKL HK4 hpl htl hund eY
  go_wp2_with fail
  refine (CO.out _ (Below.refl _ _)).mono ?_
  rintro e w6 ⟨O, gg, n, rfl, hO6, hr6, hb6⟩
  have CG2 := Lib.hid (CG.out w6 O gg n hO6 hr6 (HB5.out.trans (hb6.mono hs5)))
  clear hO6 hr6 hb6 CG CO
  go_wp2_with fail
  refine CG2.out.mono ?_
  rintro e w7 ⟨rfl, hb7⟩
  have HB7 := Lib.hid hb7
  clear hb7
  go_wp2_with fail
  go_ret
  exact ⟨rfl, HB7.out⟩

end Go.Proofs.Ytiacgcpcgabdoaa
