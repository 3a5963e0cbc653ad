/- The walks of laws.FnExactMakeDyadic and laws.FnExactHalfOf. -/
import Derived.Test.YtlblkmhiildgeaaDoorDySum
namespace Go.Proofs.YtlblkmhiildgeaaDoor
open Go.RowKit
set_option linter.unusedVariables false

theorem fnExactMakeDyadic_walk (t p : Int) (w : World) (hT : DeBr w) : Calls Tryd.prog 6 #[.int .i64 t, .int .i64 p] w fun e w' => e = .returned (.bool true) ∧ Below w.heap.size w w' := by
  by_cases h : -1000000000 ≤ t ∧ t ≤ 1000000000 ∧ 0 ≤ p ∧ p ≤ 16
  · obtain ⟨h1, h2, h3, h4⟩ := h
    obtain ⟨q, rfl⟩ := Int.eq_ofNat_of_zero_le h3
    have h5 : q ≤ 16 := by omega
    have HM : ∀ W, Hid (Calls Tryd.prog 33 #[.int .i64 t, .int .i64 q] W fun e w' => e = .returned (.tuple #[.agg #[.int .i64 ((finD (mkD t q)).1), .int .i64 ((finD (mkD t q)).2.1)], .bool ((finD (mkD t q)).2.2)]) ∧ Below W.heap.size W w') := fun W => Lib.hid (makeS_yes t q W h1 h2 h5)
    have HI : ∀ W, Below w.heap.size w W → Hid (Calls Tryd.prog 32 #[.int .i64 t, .int .i64 q] W fun e w' => e = .returned (.tuple #[.agg #[.int .i64 ((finD (mkD t q)).1), .int .i64 ((finD (mkD t q)).2.1)], .bool ((finD (mkD t q)).2.2)]) ∧ Below W.heap.size W w') := fun W hb => Lib.hid (makeI_yes t q W h1 h2 h5 (hT.below hb))
    clear h1 h2 h3 h4 h5 hT
    generalize finD (mkD t q) = r at HM HI
    go_enter Tryd.func6, Tryd.ntmps6
    go_wp2_with fail
    refine ((HM _).out).mono ?_
    rintro e w1 ⟨rfl, hb⟩
    obtain ⟨hc1, hf1⟩ := bcell hb
    have hz1 := hb.size
    (try simp at hz1)
    have HB1 := Lib.hid hb
    clear hb
    go_wp2_with fail
    refine ((HI _ (HB1.out.alloc HB1.out.size _)).out).mono ?_
    rintro e w2 ⟨rfl, hb⟩
    obtain ⟨hc2, hf2⟩ := bcell hb
    have hz2 := hb.size
    (try simp at hz2)
    have hy2_0 : w1.heap.size < w2.heap.size := (by omega)
    have HB2 := Lib.hid hb
    clear hb
    go_wp2_with fail
    refine (eqD_calls _ _ _).mono ?_
    rintro e w3 ⟨rfl, hb⟩
    obtain ⟨hc3, hf3⟩ := bcell hb
    have hz3 := hb.size
    (try simp at hz3)
    have hy3_0 : w1.heap.size < w3.heap.size := (by omega)
    have hy3_1 : w2.heap.size < w3.heap.size := (by omega)
    have HB3 := Lib.hid hb
    clear hb
    go_wp2_with fail
    go_ret
    refine ⟨rfl, ?_⟩
    (repeat' (first | exact Below.refl _ _ | refine Below.setCell ?_ ?_ _ | refine Below.alloc ?_ ?_ _ | refine Below.trans ?_ (HB3.out.mono ?_) | refine Below.trans ?_ (HB2.out.mono ?_) | refine Below.trans ?_ (HB1.out.mono ?_))) <;> (first | omega | (simp; done) | (simp; omega))
  · have h5 : t < -1000000000 ∨ (-1000000000 ≤ t ∧ 1000000000 < t) ∨ (-1000000000 ≤ t ∧ t ≤ 1000000000 ∧ (p < 0 ∨ (0 ≤ p ∧ 16 < p))) := by omega
    have H5 := Lib.hid h5
    clear h h5 hT
    go_enter Tryd.func6, Tryd.ntmps6
    go_wp2_with fail
    refine (makeS_no _ _ _ H5.out).mono ?_
    rintro e w1 ⟨rfl, hb⟩
    obtain ⟨hc1, hf1⟩ := bcell hb
    have hz1 := hb.size
    (try simp at hz1)
    have HB1 := Lib.hid hb
    clear hb
    go_wp2_with fail
    refine (makeI_no _ _ _ H5.out).mono ?_
    rintro e w2 ⟨rfl, hb⟩
    obtain ⟨hc2, hf2⟩ := bcell hb
    have hz2 := hb.size
    (try simp at hz2)
    have hy2_0 : w1.heap.size < w2.heap.size := (by omega)
    have HB2 := Lib.hid hb
    clear hb
    go_wp2_with fail
    refine (eqD_calls _ _ _).mono ?_
    rintro e w3 ⟨rfl, hb⟩
    obtain ⟨hc3, hf3⟩ := bcell hb
    have hz3 := hb.size
    (try simp at hz3)
    have hy3_0 : w1.heap.size < w3.heap.size := (by omega)
    have hy3_1 : w2.heap.size < w3.heap.size := (by omega)
    have HB3 := Lib.hid hb
    clear hb
    go_wp2_with fail
    go_ret
    refine ⟨rfl, ?_⟩
    (repeat' (first | exact Below.refl _ _ | refine Below.setCell ?_ ?_ _ | refine Below.alloc ?_ ?_ _ | refine Below.trans ?_ (HB3.out.mono ?_) | refine Below.trans ?_ (HB2.out.mono ?_) | refine Below.trans ?_ (HB1.out.mono ?_))) <;> (first | omega | (simp; done) | (simp; omega))

set_option maxHeartbeats 400000 in
theorem fnExactHalfOf_walk (t p : Int) (w : World) (hT : DeBr w) : Calls Tryd.prog 8 #[.agg #[.int .i64 t, .int .i64 p]] w fun e w' => e = .returned (.bool true) ∧ Below w.heap.size w w' := by
  by_cases hg : goodD t p = true
  · obtain ⟨q, rfl, hp, h1, h2, _⟩ := good_nat hg
    have HM : ∀ W, Hid (Calls Tryd.prog 37 #[.agg #[.int .i64 t, .int .i64 q]] W fun e w' => e = .returned (.tuple #[.agg #[.int .i64 ((finD (mkD t (q + 1))).1), .int .i64 ((finD (mkD t (q + 1))).2.1)], .bool ((finD (mkD t (q + 1))).2.2)]) ∧ Below W.heap.size W w') := fun W => Lib.hid (halfS_yes t q W h1 h2 hp hg)
    have HI : ∀ W, Below w.heap.size w W → Hid (Calls Tryd.prog 17 #[.agg #[.int .i64 t, .int .i64 q]] W fun e w' => e = .returned (.tuple #[.agg #[.int .i64 ((finD (mkD t (q + 1))).1), .int .i64 ((finD (mkD t (q + 1))).2.1)], .bool ((finD (mkD t (q + 1))).2.2)]) ∧ Below W.heap.size W w') := fun W hb => Lib.hid (halfI_yes t q W h1 h2 hp hg (hT.below hb))
    clear hg hp h1 h2 hT
    generalize finD (mkD t (q + 1)) = r at HM HI
    go_enter Tryd.func8, Tryd.ntmps8
    go_wp2_with fail
    refine (toD_calls _ _ _).mono ?_
    rintro e w1 ⟨rfl, hb⟩
    obtain ⟨hc1, hf1⟩ := bcell hb
    have hz1 := hb.size
    (try simp at hz1)
    have hy1_0 : w.heap.size < w1.heap.size := (by omega)
    have HB1 := Lib.hid hb
    clear hb
    go_wp2_with fail
    refine ((HM _).out).mono ?_
    rintro e w2 ⟨rfl, hb⟩
    obtain ⟨hc2, hf2⟩ := bcell hb
    have hz2 := hb.size
    (try simp at hz2)
    have hy2_0 : w.heap.size < w2.heap.size := (by omega)
    have HB2 := Lib.hid hb
    clear hb
    go_wp2_with fail
    refine (toD_calls _ _ _).mono ?_
    rintro e w3 ⟨rfl, hb⟩
    obtain ⟨hc3, hf3⟩ := bcell hb
    have hz3 := hb.size
    (try simp at hz3)
    have hy3_0 : w.heap.size < w3.heap.size := (by omega)
    have hy3_1 : w2.heap.size < w3.heap.size := (by omega)
    have HB3 := Lib.hid hb
    clear hb
    go_wp2_with fail
    have hb4 : Below w.heap.size w w3 := by
      (repeat' (first | exact Below.refl _ _ | refine Below.setCell ?_ ?_ _ | refine Below.alloc ?_ ?_ _ | refine Below.trans ?_ (HB3.out.mono ?_) | refine Below.trans ?_ (HB2.out.mono ?_) | refine Below.trans ?_ (HB1.out.mono ?_))) <;> (first | omega | (simp; done) | (simp; omega))
    have HB4a := Lib.hid hb4
    clear hb4
    refine ((HI _ HB4a.out).out).mono ?_
    rintro e w4 ⟨rfl, hb⟩
    obtain ⟨hc4, hf4⟩ := bcell hb
    have hz4 := hb.size
    (try simp at hz4)
    have hy4_0 : w.heap.size < w4.heap.size := (by omega)
    have hy4_1 : w2.heap.size < w4.heap.size := (by omega)
    have HB4 := Lib.hid hb
    clear hb
    go_wp2_with fail
    refine (eqD_calls _ _ _).mono ?_
    rintro e w5 ⟨rfl, hb⟩
    obtain ⟨hc5, hf5⟩ := bcell hb
    have hz5 := hb.size
    (try simp at hz5)
    have hy5_0 : w.heap.size < w5.heap.size := (by omega)
    have hy5_1 : w2.heap.size < w5.heap.size := (by omega)
    have hy5_2 : w4.heap.size < w5.heap.size := (by omega)
    have HB5 := Lib.hid hb
    clear hb
    go_wp2_with fail
    go_ret
    refine ⟨rfl, ?_⟩
    (repeat' (first | exact Below.refl _ _ | refine Below.setCell ?_ ?_ _ | refine Below.alloc ?_ ?_ _ | refine Below.trans ?_ (HB5.out.mono ?_) | refine Below.trans ?_ (HB4.out.mono ?_) | refine Below.trans ?_ (HB3.out.mono ?_) | refine Below.trans ?_ (HB2.out.mono ?_) | refine Below.trans ?_ (HB1.out.mono ?_))) <;> (first | omega | (simp; done) | (simp; omega))
  · have HG := Lib.hid (by simpa using hg : goodD t p = false)
    clear hg hT
    go_enter Tryd.func8, Tryd.ntmps8
    go_wp2_with fail
    refine (toD_calls _ _ _).mono ?_
    rintro e w1 ⟨rfl, hb⟩
    obtain ⟨hc1, hf1⟩ := bcell hb
    have hz1 := hb.size
    (try simp at hz1)
    have hy1_0 : w.heap.size < w1.heap.size := (by omega)
    have HB1 := Lib.hid hb
    clear hb
    go_wp2_with fail
    refine (halfS_no _ _ _ HG.out).mono ?_
    rintro e w2 ⟨rfl, hb⟩
    obtain ⟨hc2, hf2⟩ := bcell hb
    have hz2 := hb.size
    (try simp at hz2)
    have hy2_0 : w.heap.size < w2.heap.size := (by omega)
    have HB2 := Lib.hid hb
    clear hb
    go_wp2_with fail
    refine (toD_calls _ _ _).mono ?_
    rintro e w3 ⟨rfl, hb⟩
    obtain ⟨hc3, hf3⟩ := bcell hb
    have hz3 := hb.size
    (try simp at hz3)
    have hy3_0 : w.heap.size < w3.heap.size := (by omega)
    have hy3_1 : w2.heap.size < w3.heap.size := (by omega)
    have HB3 := Lib.hid hb
    clear hb
    go_wp2_with fail
    refine (halfI_no _ _ _ HG.out).mono ?_
    rintro e w4 ⟨rfl, hb⟩
    obtain ⟨hc4, hf4⟩ := bcell hb
    have hz4 := hb.size
    (try simp at hz4)
    have hy4_0 : w.heap.size < w4.heap.size := (by omega)
    have hy4_1 : w2.heap.size < w4.heap.size := (by omega)
    have HB4 := Lib.hid hb
    clear hb
    go_wp2_with fail
    refine (eqD_calls _ _ _).mono ?_
    rintro e w5 ⟨rfl, hb⟩
    obtain ⟨hc5, hf5⟩ := bcell hb
    have hz5 := hb.size
    (try simp at hz5)
    have hy5_0 : w.heap.size < w5.heap.size := (by omega)
    have hy5_1 : w2.heap.size < w5.heap.size := (by omega)
    have hy5_2 : w4.heap.size < w5.heap.size := (by omega)
    have HB5 := Lib.hid hb
    clear hb
    go_wp2_with fail
    go_ret
    refine ⟨rfl, ?_⟩
    (repeat' (first | exact Below.refl _ _ | refine Below.setCell ?_ ?_ _ | refine Below.alloc ?_ ?_ _ | refine Below.trans ?_ (HB5.out.mono ?_) | refine Below.trans ?_ (HB4.out.mono ?_) | refine Below.trans ?_ (HB3.out.mono ?_) | refine Below.trans ?_ (HB2.out.mono ?_) | refine Below.trans ?_ (HB1.out.mono ?_))) <;> (first | omega | (simp; done) | (simp; omega))

end Go.Proofs.YtlblkmhiildgeaaDoor
