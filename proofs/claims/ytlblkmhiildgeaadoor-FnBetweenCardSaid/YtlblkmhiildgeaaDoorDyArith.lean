/- Numbers made, halved and put together, by both programs. -/
import Derived.Test.YtlblkmhiildgeaaDoorDyAdd
import Derived.Test.YtlblkmhiildgeaaDoorDyRed
import Derived.Test.YtlblkmhiildgeaaDoorDyCmp
namespace Go.Proofs.YtlblkmhiildgeaaDoor
open Go.RowKit
set_option linter.unusedVariables false

theorem l1In_true (x a b : Int) (w : World) (h1 : a ≤ x) (h2 : x ≤ b) : Calls Tryd.prog 66 #[.int .i64 x, .int .i64 a, .int .i64 b] w fun e w' => e = .returned (.bool true) ∧ w = w' := by
  go_enter Tryd.func66, Tryd.ntmps66
  go_wp2
  go_ret
  exact ⟨rfl, rfl⟩
theorem l1In_false (x a b : Int) (w : World) (h : x < a ∨ (a ≤ x ∧ b < x)) : Calls Tryd.prog 66 #[.int .i64 x, .int .i64 a, .int .i64 b] w fun e w' => e = .returned (.bool false) ∧ w = w' := by
  rcases h with h | ⟨h1, h⟩
  · have h2 : ¬ a ≤ x := by omega
    go_enter Tryd.func66, Tryd.ntmps66
    go_wp2
    go_ret
    exact ⟨rfl, rfl⟩
  · have h2 : ¬ x ≤ b := by omega
    go_enter Tryd.func66, Tryd.ntmps66
    go_wp2
    go_ret
    exact ⟨rfl, rfl⟩

theorem finD_good {t : Int} {p : Nat} (h : goodD t p = true) : finD (t, p) = (t, (p : Int), true) := by unfold finD; rw [if_pos h]
theorem finD_bad {t : Int} {p : Nat} (h : goodD t p = false) : finD (t, p) = (0, 0, false) := by unfold finD; rw [if_neg (by simp [h])]

theorem l2If_yes (t : Int) (p : Nat) (w : World) (hg : goodD t p = true) : Calls Tryd.prog 42 #[.agg #[.int .i64 t, .int .i64 p]] w fun e w' => e = .returned (.tuple #[.agg #[.int .i64 t, .int .i64 p], .bool true]) ∧ Below w.heap.size w w' := by
  have HG := Lib.hid hg
  clear hg
  have hP0 := pair_start w (.int .i64 t) (.int .i64 p) (.int .i64 0) (.int .i64 0) 25
  go_enter Tryd.func42, Tryd.ntmps42
  go_wp2_with fail
  refine ((goodS_calls _ _ _).mono fun e w' h => (HG.out ▸ h : _ ∧ _)).mono ?_
  rintro e w1 ⟨rfl, hb⟩
  have hP1 := pair_next hb hP0
  have hQ := hP1
  obtain ⟨c10, c11, c12, c13, c14, HB1⟩ := hQ
  have hf1 := (bcell hb).2
  clear hb HB1
  go_wp2_with fail
  refine bodyPost_ret (v := .tuple #[.agg #[.int .i64 t, .int .i64 p], .bool true]) (by simp [*, results, Tryd.results42, go_sem]) rfl ⟨rfl, ?_⟩
  exact (hP1.2.2.2.2.2.setCell (by simp) _).setCell (by simp) _


theorem l2If_no (t : Int) (p : Nat) (w : World) (hg : goodD t p = false) : Calls Tryd.prog 42 #[.agg #[.int .i64 t, .int .i64 p]] w fun e w' => e = .returned (.tuple #[.agg #[.int .i64 0, .int .i64 0], .bool false]) ∧ Below w.heap.size w w' := by
  have HG := Lib.hid hg
  clear hg
  have hP0 := pair_start w (.int .i64 t) (.int .i64 p) (.int .i64 0) (.int .i64 0) 25
  go_enter Tryd.func42, Tryd.ntmps42
  go_wp2_with fail
  refine ((goodS_calls _ _ _).mono fun e w' h => (HG.out ▸ h : _ ∧ _)).mono ?_
  rintro e w1 ⟨rfl, hb⟩
  have hP1 := pair_next hb hP0
  have hQ := hP1
  obtain ⟨c10, c11, c12, c13, c14, HB1⟩ := hQ
  have hf1 := (bcell hb).2
  clear hb HB1
  go_wp2_with fail
  refine bodyPost_ret (v := .tuple #[.agg #[.int .i64 0, .int .i64 0], .bool false]) (by simp [*, results, Tryd.results42, go_sem]) rfl ⟨rfl, ?_⟩
  exact (hP1.2.2.2.2.2.setCell (by simp) _).setCell (by simp) _


theorem l2If_calls (x : Int × Nat) (w : World) : Calls Tryd.prog 42 #[.agg #[.int .i64 x.1, .int .i64 x.2]] w fun e w' => e = .returned (.tuple #[.agg #[.int .i64 ((finD x).1), .int .i64 ((finD x).2.1)], .bool ((finD x).2.2)]) ∧ Below w.heap.size w w' := by
  obtain ⟨t, p⟩ := x
  by_cases hg : goodD t p = true
  · rw [finD_good hg]
    exact l2If_yes t p w hg
  · rw [finD_bad (by simpa using hg)]
    exact l2If_no t p w (by simpa using hg)

theorem makeI_no (t p : Int) (w : World) (h : t < -1000000000 ∨ (-1000000000 ≤ t ∧ 1000000000 < t) ∨ (-1000000000 ≤ t ∧ t ≤ 1000000000 ∧ (p < 0 ∨ (0 ≤ p ∧ 16 < p)))) : Calls Tryd.prog 32 #[.int .i64 t, .int .i64 p] w fun e w' => e = .returned (.tuple #[.agg #[.int .i64 0, .int .i64 0], .bool false]) ∧ Below w.heap.size w w' := by
  rcases h with h | ⟨h1, h2⟩ | ⟨h1, h2, h3 | ⟨h3, h4⟩⟩
  all_goals
    go_enter Tryd.func32, Tryd.ntmps32
    go_wp2
    refine bodyPost_ret (v := .tuple #[.agg #[.int .i64 0, .int .i64 0], .bool false]) (by simp [*, results, Tryd.results32, go_sem]) rfl ⟨rfl, ?_⟩
    exact (Below.refl _ _).alloc (Nat.le_refl _) _

theorem makeS_no (t p : Int) (w : World) (h : t < -1000000000 ∨ (-1000000000 ≤ t ∧ 1000000000 < t) ∨ (-1000000000 ≤ t ∧ t ≤ 1000000000 ∧ (p < 0 ∨ (0 ≤ p ∧ 16 < p)))) : Calls Tryd.prog 33 #[.int .i64 t, .int .i64 p] w fun e w' => e = .returned (.tuple #[.agg #[.int .i64 0, .int .i64 0], .bool false]) ∧ Below w.heap.size w w' := by
  by_cases h0 : t < -1000000000 ∨ (-1000000000 ≤ t ∧ 1000000000 < t)
  · go_enter Tryd.func33, Tryd.ntmps33
    go_wp2_with fail
    refine (l1In_false _ _ _ _ h0).mono ?_
    rintro e w1 ⟨rfl, rfl⟩
    go_wp2_with fail
    refine bodyPost_ret (v := .tuple #[.agg #[.int .i64 0, .int .i64 0], .bool false]) (by simp [*, results, Tryd.results33, go_sem]) rfl ⟨rfl, ?_⟩
    exact (Below.refl _ _).alloc (Nat.le_refl _) _
  · have h1 : -1000000000 ≤ t := by omega
    have h2 : t ≤ 1000000000 := by omega
    have h3 : p < 0 ∨ (0 ≤ p ∧ 16 < p) := by omega
    clear h h0
    go_enter Tryd.func33, Tryd.ntmps33
    go_wp2_with fail
    refine (l1In_true _ _ _ _ h1 h2).mono ?_
    rintro e w1 ⟨rfl, rfl⟩
    go_wp2_with fail
    refine (l1In_false _ _ _ _ h3).mono ?_
    rintro e w1 ⟨rfl, rfl⟩
    go_wp2_with fail
    refine bodyPost_ret (v := .tuple #[.agg #[.int .i64 0, .int .i64 0], .bool false]) (by simp [*, results, Tryd.results33, go_sem]) rfl ⟨rfl, ?_⟩
    exact (Below.refl _ _).alloc (Nat.le_refl _) _

theorem makeI_yes (t : Int) (p : Nat) (w : World) (h1 : -1000000000 ≤ t) (h2 : t ≤ 1000000000) (hp : p ≤ 16) (hT : DeBr w) : Calls Tryd.prog 32 #[.int .i64 t, .int .i64 p] w fun e w' => e = .returned (.tuple #[.agg #[.int .i64 ((finD (mkD t p)).1), .int .i64 ((finD (mkD t p)).2.1)], .bool ((finD (mkD t p)).2.2)]) ∧ Below w.heap.size w w' := by
  have HM : ∀ W, Below w.heap.size w W → Hid (Calls Tryd.prog 39 #[.int .i64 t, .int .i64 p] W fun e w' => e = .returned (.tuple #[.agg #[.int .i64 ((finD (mkD t p)).1), .int .i64 ((finD (mkD t p)).2.1)], .bool ((finD (mkD t p)).2.2)]) ∧ Below W.heap.size W w') := fun W hb => Lib.hid (reduced_calls t p W (by omega) (hT.below hb))
  clear hT
  generalize finD (mkD t p) = r at HM ⊢
  have g1 : ¬ t < -1000000000 := by omega
  have g2 : ¬ 1000000000 < t := by omega
  have g3 : ¬ (p : Int) < 0 := by omega
  have g4 : ¬ 16 < (p : Int) := by omega
  have hP0 := one_start w (.int .i64 0) (.int .i64 0) 25
  go_enter Tryd.func32, Tryd.ntmps32
  go_wp2_with fail
  refine ((HM _ ((Below.refl _ _).alloc (Nat.le_refl _) _)).out).mono ?_
  rintro e w1 ⟨rfl, hb⟩
  have hP1 := one_next hb hP0
  have hQ := hP1
  obtain ⟨c10, c11, c12, HB1⟩ := hQ
  have hf1 := (bcell hb).2
  clear hb HB1
  go_wp2_with fail
  refine bodyPost_ret (v := .tuple #[.agg #[.int .i64 r.1, .int .i64 r.2.1], .bool r.2.2]) (by simp [*, results, Tryd.results32, go_sem]) rfl ⟨rfl, ?_⟩
  exact (hP1.2.2.2.setCell (Nat.le_refl _) _).setCell (Nat.le_refl _) _

theorem makeS_yes (t : Int) (p : Nat) (w : World) (h1 : -1000000000 ≤ t) (h2 : t ≤ 1000000000) (hp : p ≤ 16) : Calls Tryd.prog 33 #[.int .i64 t, .int .i64 p] w fun e w' => e = .returned (.tuple #[.agg #[.int .i64 ((finD (mkD t p)).1), .int .i64 ((finD (mkD t p)).2.1)], .bool ((finD (mkD t p)).2.2)]) ∧ Below w.heap.size w w' := by
  have HM : ∀ W, Hid (Calls Tryd.prog 49 #[.int .i64 t, .int .i64 p] W fun e w' => e = .returned (.agg #[.int .i64 ((mkD t p).1), .int .i64 ((mkD t p).2)]) ∧ Below W.heap.size W w') := fun W => Lib.hid (l2Make_calls t p W (by omega) (by omega) (by omega))
  have HI : ∀ W, Hid (Calls Tryd.prog 42 #[.agg #[.int .i64 ((mkD t p).1), .int .i64 ((mkD t p).2)]] W fun e w' => e = .returned (.tuple #[.agg #[.int .i64 ((finD (mkD t p)).1), .int .i64 ((finD (mkD t p)).2.1)], .bool ((finD (mkD t p)).2.2)]) ∧ Below W.heap.size W w') := fun W => Lib.hid (l2If_calls (mkD t p) W)
  generalize finD (mkD t p) = r at HI ⊢
  generalize mkD t p = x at HM HI
  have g3 : (0 : Int) ≤ p := by omega
  have g4 : (p : Int) ≤ 16 := by omega
  have hP0 := one_start w (.int .i64 0) (.int .i64 0) 25
  go_enter Tryd.func33, Tryd.ntmps33
  go_wp2_with fail
  refine (l1In_true _ _ _ _ h1 h2).mono ?_
  rintro e w1 ⟨rfl, rfl⟩
  go_wp2_with fail
  refine (l1In_true _ _ _ _ g3 g4).mono ?_
  rintro e w1 ⟨rfl, rfl⟩
  go_wp2_with fail
  refine ((HM _).out).mono ?_
  rintro e w1 ⟨rfl, hb⟩
  have hP1 := one_next hb hP0
  have hQ := hP1
  obtain ⟨c10, c11, c12, HB1⟩ := hQ
  have hf1 := (bcell hb).2
  clear hb HB1
  go_wp2_with fail
  refine ((HI _).out).mono ?_
  rintro e w2 ⟨rfl, hb⟩
  have hP2 := one_next hb hP1
  have hQ := hP2
  obtain ⟨c20, c21, c22, HB2⟩ := hQ
  have hf2 := (bcell hb).2
  clear hb HB2
  go_wp2_with fail
  refine bodyPost_ret (v := .tuple #[.agg #[.int .i64 r.1, .int .i64 r.2.1], .bool r.2.2]) (by simp [*, results, Tryd.results33, go_sem]) rfl ⟨rfl, ?_⟩
  exact (hP2.2.2.2.setCell (Nat.le_refl _) _).setCell (Nat.le_refl _) _

theorem halfI_no (t p : Int) (w : World) (hg : goodD t p = false) : Calls Tryd.prog 17 #[.agg #[.int .i64 t, .int .i64 p]] w fun e w' => e = .returned (.tuple #[.agg #[.int .i64 0, .int .i64 0], .bool false]) ∧ Below w.heap.size w w' := by
  have HG := Lib.hid hg
  clear hg
  have hP0 := pair_start w (.int .i64 t) (.int .i64 p) (.int .i64 0) (.int .i64 0) 25
  go_enter Tryd.func17, Tryd.ntmps17
  go_wp2_with fail
  refine ((goodI_calls _ _ _).mono fun e w' h => (HG.out ▸ h : _ ∧ _)).mono ?_
  rintro e w1 ⟨rfl, hb⟩
  have hP1 := pair_next hb hP0
  have hQ := hP1
  obtain ⟨c10, c11, c12, c13, c14, HB1⟩ := hQ
  have hf1 := (bcell hb).2
  clear hb HB1
  go_wp2_with fail
  refine bodyPost_ret (v := .tuple #[.agg #[.int .i64 0, .int .i64 0], .bool false]) (by simp [*, results, Tryd.results17, go_sem]) rfl ⟨rfl, ?_⟩
  exact (hP1.2.2.2.2.2.setCell (by simp) _).setCell (by simp) _

theorem halfS_no (t p : Int) (w : World) (hg : goodD t p = false) : Calls Tryd.prog 37 #[.agg #[.int .i64 t, .int .i64 p]] w fun e w' => e = .returned (.tuple #[.agg #[.int .i64 0, .int .i64 0], .bool false]) ∧ Below w.heap.size w w' := by
  have HG := Lib.hid hg
  clear hg
  have hP0 := pair_start w (.int .i64 t) (.int .i64 p) (.int .i64 0) (.int .i64 0) 25
  go_enter Tryd.func37, Tryd.ntmps37
  go_wp2_with fail
  refine ((goodS_calls _ _ _).mono fun e w' h => (HG.out ▸ h : _ ∧ _)).mono ?_
  rintro e w1 ⟨rfl, hb⟩
  have hP1 := pair_next hb hP0
  have hQ := hP1
  obtain ⟨c10, c11, c12, c13, c14, HB1⟩ := hQ
  have hf1 := (bcell hb).2
  clear hb HB1
  go_wp2_with fail
  refine bodyPost_ret (v := .tuple #[.agg #[.int .i64 0, .int .i64 0], .bool false]) (by simp [*, results, Tryd.results37, go_sem]) rfl ⟨rfl, ?_⟩
  exact (hP1.2.2.2.2.2.setCell (by simp) _).setCell (by simp) _

theorem halfI_yes (t : Int) (p : Nat) (w : World) (h1 : -1000000 ≤ t) (h2 : t ≤ 1000000) (hp : p ≤ 16) (hg : goodD t p = true) (hT : DeBr w) : Calls Tryd.prog 17 #[.agg #[.int .i64 t, .int .i64 p]] w fun e w' => e = .returned (.tuple #[.agg #[.int .i64 ((finD (mkD t (p + 1))).1), .int .i64 ((finD (mkD t (p + 1))).2.1)], .bool ((finD (mkD t (p + 1))).2.2)]) ∧ Below w.heap.size w w' := by
  have HM : ∀ W, Below w.heap.size w W → Hid (Calls Tryd.prog 39 #[.int .i64 t, .int .i64 ((p : Int) + 1)] W fun e w' => e = .returned (.tuple #[.agg #[.int .i64 ((finD (mkD t (p + 1))).1), .int .i64 ((finD (mkD t (p + 1))).2.1)], .bool ((finD (mkD t (p + 1))).2.2)]) ∧ Below W.heap.size W w') := fun W hb => Lib.hid (reduced_calls t (p + 1) W (by omega) (hT.below hb))
  have HG := Lib.hid hg
  clear hT hg
  generalize finD (mkD t (p + 1)) = r at HM ⊢
  have hP0 := pair_start w (.int .i64 t) (.int .i64 p) (.int .i64 0) (.int .i64 0) 25
  go_enter Tryd.func17, Tryd.ntmps17
  go_wp2_with fail
  refine ((goodI_calls _ _ _).mono fun e w' h => (HG.out ▸ h : _ ∧ _)).mono ?_
  rintro e w1 ⟨rfl, hb⟩
  have hP1 := pair_next hb hP0
  have hQ := hP1
  obtain ⟨c10, c11, c12, c13, c14, HB1⟩ := hQ
  have hf1 := (bcell hb).2
  clear hb HB1
  go_wp2_with fail
  refine ((HM _ hP1.2.2.2.2.2).out).mono ?_
  rintro e w2 ⟨rfl, hb⟩
  have hP2 := pair_next hb hP1
  have hQ := hP2
  obtain ⟨c20, c21, c22, c23, c24, HB2⟩ := hQ
  have hf2 := (bcell hb).2
  clear hb HB2
  go_wp2_with fail
  refine bodyPost_ret (v := .tuple #[.agg #[.int .i64 r.1, .int .i64 r.2.1], .bool r.2.2]) (by simp [*, results, Tryd.results17, go_sem]) rfl ⟨rfl, ?_⟩
  exact (hP2.2.2.2.2.2.setCell (by simp) _).setCell (by simp) _

theorem halfS_yes (t : Int) (p : Nat) (w : World) (h1 : -1000000 ≤ t) (h2 : t ≤ 1000000) (hp : p ≤ 16) (hg : goodD t p = true) : Calls Tryd.prog 37 #[.agg #[.int .i64 t, .int .i64 p]] w fun e w' => e = .returned (.tuple #[.agg #[.int .i64 ((finD (mkD t (p + 1))).1), .int .i64 ((finD (mkD t (p + 1))).2.1)], .bool ((finD (mkD t (p + 1))).2.2)]) ∧ Below w.heap.size w w' := by
  have HM : ∀ W, Hid (Calls Tryd.prog 49 #[.int .i64 t, .int .i64 ((p : Int) + 1)] W fun e w' => e = .returned (.agg #[.int .i64 ((mkD t (p + 1)).1), .int .i64 ((mkD t (p + 1)).2)]) ∧ Below W.heap.size W w') := fun W => Lib.hid (l2Make_calls t (p + 1) W (by omega) (by omega) (by omega))
  have HI : ∀ W, Hid (Calls Tryd.prog 42 #[.agg #[.int .i64 ((mkD t (p + 1)).1), .int .i64 ((mkD t (p + 1)).2)]] W fun e w' => e = .returned (.tuple #[.agg #[.int .i64 ((finD (mkD t (p + 1))).1), .int .i64 ((finD (mkD t (p + 1))).2.1)], .bool ((finD (mkD t (p + 1))).2.2)]) ∧ Below W.heap.size W w') := fun W => Lib.hid (l2If_calls (mkD t (p + 1)) W)
  have HG := Lib.hid hg
  clear hg
  generalize finD (mkD t (p + 1)) = r at HI ⊢
  generalize mkD t (p + 1) = x at HM HI
  have hP0 := pair_start w (.int .i64 t) (.int .i64 p) (.int .i64 0) (.int .i64 0) 25
  go_enter Tryd.func37, Tryd.ntmps37
  go_wp2_with fail
  refine ((goodS_calls _ _ _).mono fun e w' h => (HG.out ▸ h : _ ∧ _)).mono ?_
  rintro e w1 ⟨rfl, hb⟩
  have hP1 := pair_next hb hP0
  have hQ := hP1
  obtain ⟨c10, c11, c12, c13, c14, HB1⟩ := hQ
  have hf1 := (bcell hb).2
  clear hb HB1
  go_wp2_with fail
  refine ((HM _).out).mono ?_
  rintro e w2 ⟨rfl, hb⟩
  have hP2 := pair_next hb hP1
  have hQ := hP2
  obtain ⟨c20, c21, c22, c23, c24, HB2⟩ := hQ
  have hf2 := (bcell hb).2
  clear hb HB2
  go_wp2_with fail
  refine ((HI _).out).mono ?_
  rintro e w3 ⟨rfl, hb⟩
  have hP3 := pair_next hb hP2
  have hQ := hP3
  obtain ⟨c30, c31, c32, c33, c34, HB3⟩ := hQ
  have hf3 := (bcell hb).2
  clear hb HB3
  go_wp2_with fail
  refine bodyPost_ret (v := .tuple #[.agg #[.int .i64 r.1, .int .i64 r.2.1], .bool r.2.2]) (by simp [*, results, Tryd.results37, go_sem]) rfl ⟨rfl, ?_⟩
  exact (hP3.2.2.2.2.2.setCell (by simp) _).setCell (by simp) _

end Go.Proofs.YtlblkmhiildgeaaDoor
