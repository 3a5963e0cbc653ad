/- impl.ascending: each node ahead of the next one. -/
import Derived.Test.YtabfdaofikccmaaFmBorn
import Derived.Test.YtabfdaofikccmaaFmCmp
namespace Go.Proofs.Ytabfdaofikccmaa
open Go.RowKit
theorem cmpL_up : ∀ a b : List Nat, (cmpL (upL a) (upL b) < 0 ↔ ltL a b = true)
  | [], [] => by simp [cmpL, upL, ltL]
  | [], _ :: _ => by simp [cmpL, upL, ltL]
  | _ :: _, [] => by simp [cmpL, upL, ltL]
  | x :: a, y :: b => by
    have ih := cmpL_up a b
    unfold upL at ih ⊢
    simp only [List.map_cons]
    unfold cmpL ltL
    by_cases h : x = y
    · rw [if_pos (by omega), if_pos h]
      exact ih
    · rw [if_neg (by omega), if_neg h]
      unfold cmpI
      by_cases h2 : x < y
      · rw [if_pos (by omega)]; simp [h2]
      · rw [if_neg (by omega), if_pos (by omega)]; simp; omega
theorem upL_inj {a b : List Nat} : upL a = upL b ↔ a = b := by
  constructor
  · intro h
    unfold upL at h
    have := congrArg (List.map Int.toNat) h
    simpa [List.map_map, Function.comp_def] using this
  · intro h; rw [h]
theorem cmpNd_up (x y : Nd) : cmpNd (upN x) (upN y) < 0 ↔ ltNd x y = true := by
  unfold cmpNd ltNd orI upN
  simp only
  by_cases h : x.1 = y.1
  · rw [if_pos ((cmpL_eq _ _).2 (upL_inj.2 h)), if_pos h]
    exact cmpL_up _ _
  · rw [if_neg (fun e => h (upL_inj.1 ((cmpL_eq _ _).1 e))), if_neg h]
    exact cmpL_up _ _
/-- is a node ahead of the next one? -/
def stepI (f : List Nd) (k : Nat) : Int := orI (cmpI (bOf f k) (bOf f (k + 1))) (cmpNd (upN (f.getD k ([], []))) (upN (f.getD (k + 1) ([], []))))
def ascB (f : List Nd) : Bool := (List.range (f.length - 1)).all (fun k => decide (stepI f k < 0))
theorem stepI_iff (f : List Nd) (k : Nat) (x y : Nd) (hx : f[k]? = some x) (hy : f[k + 1]? = some y) : stepI f k < 0 ↔ (bOf f k < bOf f (k + 1) ∨ (bOf f k = bOf f (k + 1) ∧ ltNd x y = true)) := by
  have ex : f.getD k ([], []) = x := by rw [List.getD_eq_getElem?_getD, hx]; rfl
  have ey : f.getD (k + 1) ([], []) = y := by rw [List.getD_eq_getElem?_getD, hy]; rfl
  unfold stepI orI
  rw [ex, ey]
  by_cases h : bOf f k = bOf f (k + 1)
  · rw [if_pos ((cmpI_eq _ _).2 (by omega)), cmpNd_up]
    constructor
    · intro h2; exact Or.inr ⟨h, h2⟩
    · rintro (h2 | ⟨_, h2⟩)
      · omega
      · exact h2
  · rw [if_neg (fun e => h (by have := (cmpI_eq _ _).1 e; omega))]
    unfold cmpI
    by_cases h2 : bOf f k < bOf f (k + 1)
    · rw [if_pos (by omega)]; simp [h2]
    · rw [if_neg (by omega), if_pos (by omega)]; simp [h2, h]
theorem ascB_iff (f : List Nd) : ascB f = true ↔ RisingBy f (bOf f) := by
  unfold ascB RisingBy
  rw [List.all_eq_true]
  constructor
  · intro h k x y hx hy
    have h1 := h k (List.mem_range.2 (by have := get_lt hy; omega))
    exact (stepI_iff f k x y hx hy).1 (by simpa using h1)
  · intro h k hk
    have hk := List.mem_range.1 hk
    obtain ⟨x, hx⟩ := lt_get (l := f) (i := k) (by omega)
    obtain ⟨y, hy⟩ := lt_get (l := f) (i := k + 1) (by omega)
    rw [decide_eq_true_iff]
    exact (stepI_iff f k x y hx hy).2 (h k x y hx hy)
/-- two numbers and two nodes at hand -/
def AscS (wr : World) (g i1 i2 b j1 j2 : Nat) (x1 x2 v1 v2 v3 v4 : Value) (w' : World) : Prop :=
  w'.cell? ⟨g, i1, none⟩ = some x1 ∧ w'.cell? ⟨g, i2, none⟩ = some x2 ∧ w'.cell? ⟨b, j1, none⟩ = some v1 ∧ w'.cell? ⟨b, j1 + 1, none⟩ = some v2 ∧ w'.cell? ⟨b, j2, none⟩ = some v3 ∧ w'.cell? ⟨b, j2 + 1, none⟩ = some v4 ∧ Below wr.heap.size wr w'
theorem asc_next {wr W w1 : World} {g i1 i2 b j1 j2 : Nat} {x1 x2 v1 v2 v3 v4 : Value} (lg : g < wr.heap.size) (lb : b < wr.heap.size) (hb : Below W.heap.size W w1) (h : AscS wr g i1 i2 b j1 j2 x1 x2 v1 v2 v3 v4 W) : AscS wr g i1 i2 b j1 j2 x1 x2 v1 v2 v3 v4 w1 := by
  obtain ⟨h1, h2, h3, h4, h5, h6, h7⟩ := h
  have hz := h7.size
  exact ⟨(bcell hb g _ (by omega)).trans h1, (bcell hb g _ (by omega)).trans h2, (bcell hb b _ (by omega)).trans h3, (bcell hb b _ (by omega)).trans h4, (bcell hb b _ (by omega)).trans h5, (bcell hb b _ (by omega)).trans h6, h7.trans (hb.mono hz)⟩
theorem asc_alloc {wr W : World} {g i1 i2 b j1 j2 : Nat} {x1 x2 v1 v2 v3 v4 : Value} (lg : g < wr.heap.size) (lb : b < wr.heap.size) (o : Obj) (h : AscS wr g i1 i2 b j1 j2 x1 x2 v1 v2 v3 v4 W) : AscS wr g i1 i2 b j1 j2 x1 x2 v1 v2 v3 v4 (W.alloc o) :=
  asc_next lg lb ((Below.refl _ _).alloc (Nat.le_refl _) _) h
set_option maxRecDepth 100000 in
set_option maxHeartbeats 4000000 in
theorem asc_calls (v : Value) (f : List Nd) (w : World) (lo hi : Nat) (hh : hi ≤ w.heap.size) (hv : NodesZ w lo hi v (f.map upN)) (hu : Under f) (h0 : 0 < f.length) (hl : f.length ≤ 1000000) :
    Calls Try.prog 79 #[v] w fun e w' => e = .returned (.bool (ascB f)) ∧ Below w.heap.size w w' := by
  have HV := Lib.hid hv
  have CB := Lib.hid (birth_calls v f w lo hi hh hv hu hl)
  have HBL := Lib.hid (bOf_le f hu)
  obtain ⟨ao, c, rfl, _, _⟩ := hv
  rw [List.length_map] at CB ⊢
  clear hu
  go_enter Try.func79, Try.ntmps79
  go_wp2_with fail
  refine CB.out.mono ?_
  rintro e w1 ⟨g, rfl, hr, hb⟩
  have HR := Lib.hid hr
  have HB1 := Lib.hid hb
  clear hr hb CB
  go_wp2
  go_loopw [4] (fun i wr => ∃ k : Nat, k + 1 ≤ f.length ∧ i = .int .i64 ((k : Int) + 1) ∧ Hid (∀ m, m < k → stepI f m < 0) ∧ Hid (RowN w.heap.size g f.length (bornsOf f) wr) ∧ Hid (Below w.heap.size w wr)) (fun i _ => f.length - (intOf i).toNat)
  case atStart => exact ⟨0, by omega, rfl, Lib.hid (fun m hm => by omega), HR, HB1⟩
  case round =>
    obtain ⟨k, hk, rfl, hst, hrow, hb⟩ := hrel
    by_cases hlt : k + 1 < f.length
    · obtain ⟨x, hx⟩ := lt_get (l := f) (i := k) (by omega)
      obtain ⟨y, hy⟩ := lt_get hlt
      obtain ⟨ao1, c1, e1, _, hn⟩ := HV.out.below hb.out hh
      obtain ⟨b, off, v1, v2, rfl, _, _, p1, p2, i1, i2⟩ := hn k (upN x) (by rw [List.getElem?_map, hx]; rfl)
      obtain ⟨b', off', v3, v4, e2, _, _, p3, p4, i3, i4⟩ := hn (k + 1) (upN y) (by rw [List.getElem?_map, hy]; rfl)
      injection e1 with e1 q1 q2
      obtain rfl := e1
      injection e2 with e2
      injection e2 with e2 e3
      subst e2 e3
      clear q1 q2 hn
      have bl : (bornsOf f).length = f.length := bornsOf_len f
      have g1 := hrow.out.at_ (x := k) (v := bOf f k) (by unfold bOf; rw [List.getD_eq_getElem?_getD, List.getElem?_eq_getElem (by omega)]; rfl)
      have g2 := hrow.out.at_ (x := k + 1) (v := bOf f (k + 1)) (by unfold bOf; rw [List.getD_eq_getElem?_getD, List.getElem?_eq_getElem (by omega)]; rfl)
      have lg := block_of_cell g1
      have lb := block_of_cell p1
      have hbz := hb.out.size
      have ex : f.getD k ([], []) = x := by rw [List.getD_eq_getElem?_getD, hx]; rfl
      have ey : f.getD (k + 1) ([], []) = y := by rw [List.getD_eq_getElem?_getD, hy]; rfl
      have HSt : Hid (stepI f k = orI (cmpI (bOf f k) (bOf f (k + 1))) (cmpNd (upN x) (upN y))) := Lib.hid (by unfold stepI; rw [ex, ey])
      have C2 := Lib.hid fun (W : World) (hW : Below wr.heap.size wr W) => cmpOpts_calls v1 v2 v3 v4 (upN x) (upN y) W lo hi lo hi (by have := hW.size; omega) (by have := hW.size; omega) (i1.below hW (by omega)) (i2.below hW (by omega)) (i3.below hW (by omega)) (i4.below hW (by omega))
      clear i1 i2 i3 i4 ex ey hx hy bl
      generalize bOf f k = b1 at g1 HSt
      generalize bOf f (k + 1) = b2 at g2 HSt
      obtain ⟨r1, hr1⟩ : ∃ r, cmpI b1 b2 = r := ⟨_, rfl⟩
      have C1 := Lib.hid fun W => cmp_calls' b1 b2 r1 (Lib.hid hr1) W
      rw [hr1] at HSt
      generalize cmpNd (upN x) (upN y) = r2 at C2 HSt
      have C3 := Lib.hid fun (W : World) (g c : Nat) => or_calls r1 r2 g c W
      generalize orI r1 r2 = r3 at C3 HSt
      clear hr1
      have hS0 : AscS wr g k (k + 1) b (off + k * 2) (off + (k + 1) * 2) (.int .i64 b1) (.int .i64 b2) v1 v2 v3 v4 wr.drew := ⟨g1, g2, p1, p2, p3, p4, below_drewN (Below.refl _ _) 1⟩
      clear g1 g2 p1 p2 p3 p4
      have kw : IntKind.i64.wrap ((k : Int) + 1 - 1) = (k : Int) := by rw [show (k : Int) + 1 - 1 = k from by omega]; exact IntWalk.i64_in _ (by omega)
      have ks : (k : Int) + 1 - 1 = (k : Int) := by omega
      have k1 : ((k : Int) + 1).toNat = k + 1 := by omega
      have kw2 : IntKind.i64.wrap (k : Int) = (k : Int) := IntWalk.i64_in _ (by omega)
      have b00 : (0 : Int) ≤ (k : Int) + 1 := by omega
      have b01 : ((k : Int)).toNat = k := by omega
      have b0 : (0 : Int) ≤ k := by omega
      have b1' : (k : Int) + 1 < f.length := by omega
      have b2' : (k : Int) < f.length := by omega
      go_wp2
      go_region_held3 (fun w' : World => w'.cell? ⟨g, k, none⟩ = some (.int .i64 b1) ∧ w'.cell? ⟨g, k + 1, none⟩ = some (.int .i64 b2) ∧ w'.cell? ⟨b, off + k * 2, none⟩ = some v1 ∧ w'.cell? ⟨b, off + k * 2 + 1, none⟩ = some v2 ∧ w'.cell? ⟨b, off + (k + 1) * 2, none⟩ = some v3 ∧ w'.cell? ⟨b, off + (k + 1) * 2 + 1, none⟩ = some v4 ∧ Below wr.heap.size wr w') (first | exact hS0 | (go_split_ands; exact ⟨‹_›, ‹_›, ‹_›, ‹_›, ‹_›, ‹_›, ‹_›⟩) | (go_split_ands; exact asc_next lg lb hb2 ⟨‹_›, ‹_›, ‹_›, ‹_›, ‹_›, ‹_›, ‹_›⟩) | (go_split_ands; exact asc_alloc lg lb _ ⟨‹_›, ‹_›, ‹_›, ‹_›, ‹_›, ‹_›, ‹_›⟩)) (first | (go_at_call 100; (with_reducible refine (C1.out _).mono ?_); rintro e wd ⟨rfl, rfl⟩) | (go_at_call 59; go_split_ands; (with_reducible refine (C2.out _ (by assumption)).mono ?_); rintro e wc ⟨rfl, hb2⟩) | (go_at_call 90; (with_reducible refine (C3.out _ _ _ (by go_simp) (by go_simp)).mono ?_); rintro e wd ⟨rfl, rfl⟩))
      all_goals
        have HQ := Lib.hid fun o => show Below w.heap.size w (wc.alloc o) from hb.out.trans ((Below.alloc (Below.trans (below_drewN (Below.refl _ _) 1) hb2) hb2.size o).mono hbz)
        have HRW := Lib.hid fun o => show RowN w.heap.size g f.length (bornsOf f) (wc.alloc o) from World.ownsRow.alloc ((drewN_row hrow.out).below hb2) o
        by_cases hneg : r3 < 0
        · have R1 : Hid (∀ m, m < k + 1 → stepI f m < 0) := Lib.hid (fun m hm => by
            by_cases e : m = k
            · rw [e, HSt.out]; exact hneg
            · exact hst.out m (by omega))
          have hnn : ¬ 0 ≤ r3 := by omega
          go_wp2
          go_roundw
          case rel => exact ⟨k + 1, by omega, congrArg (Value.int .i64) (by omega), R1, Lib.hid (HRW.out _), Lib.hid (HQ.out _)⟩
          case measure => simp [intOf]; omega
        · have R1 : Hid (ascB f = false) := Lib.hid (by
            rw [← Bool.not_eq_true]
            intro h
            unfold ascB at h
            rw [List.all_eq_true] at h
            have := h k (List.mem_range.2 (by omega))
            rw [decide_eq_true_iff, HSt.out] at this
            exact hneg this)
          have hnn : 0 ≤ r3 := by omega
          go_wp2
          go_ret
          exact ⟨ret_bool R1.out.symm, HQ.out _⟩
    · have HA : Hid (ascB f = true) := Lib.hid (by
        unfold ascB
        rw [List.all_eq_true]
        intro m hm
        rw [decide_eq_true_iff]
        exact hst.out m (by have := List.mem_range.1 hm; omega))
      clear hst
      go_wp2
      go_ret
      exact ⟨ret_bool HA.out.symm, hb.out⟩

end Go.Proofs.Ytabfdaofikccmaa
