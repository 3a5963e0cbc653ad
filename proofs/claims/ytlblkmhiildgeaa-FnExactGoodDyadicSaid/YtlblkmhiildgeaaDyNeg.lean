/- The walks of laws.FnExactGoodDyadic and laws.FnExactNegDyadic. -/
import Derived.Test.YtlblkmhiildgeaaDyPlain
namespace Go.Proofs.Ytlblkmhiildgeaa
open Go.RowKit

theorem goodSpec_calls (t p : Int) (w : World) : Calls Try.prog 7 #[.agg #[.int .i64 t, .int .i64 p]] w fun e w' => e = .returned (.bool (goodD t p)) ∧ Below w.heap.size w w' := by
  go_enter Try.func7, Try.ntmps7
  go_wp2_with fail
  refine (goodS_calls _ _ _).mono ?_
  rintro e w1 ⟨rfl, hb⟩
  obtain ⟨hc1, hf1⟩ := bcell hb
  have hz1 := hb.size
  (try simp at hz1)
  have hy1_0 : w.heap.size < w1.heap.size := (by omega)
  have HB1 := Lib.hid hb
  clear hb
  go_wp2_with fail
  go_ret
  refine ⟨rfl, ?_⟩
  (repeat' (first | exact Below.refl _ _ | refine Below.setCell ?_ ?_ _ | refine Below.alloc ?_ ?_ _ | refine Below.trans ?_ (HB1.out.mono ?_))) <;> (first | omega | (simp; done) | (simp; omega))

theorem fnExactGoodDyadic_walk (t p : Int) (w : World) : Calls Try.prog 3 #[.agg #[.int .i64 t, .int .i64 p]] w fun e w' => e = .returned (.bool true) ∧ Below w.heap.size w w' := by
  go_enter Try.func3, Try.ntmps3
  go_wp2_with fail
  refine (toD_calls _ _ _).mono ?_
  rintro e w1 ⟨rfl, hb⟩
  obtain ⟨hc1, hf1⟩ := bcell hb
  have hz1 := hb.size
  (try simp at hz1)
  have hy1_0 : w.heap.size < w1.heap.size := (by omega)
  have HB1 := Lib.hid hb
  clear hb
  go_wp2_with fail
  refine (goodSpec_calls _ _ _).mono ?_
  rintro e w2 ⟨rfl, hb⟩
  obtain ⟨hc2, hf2⟩ := bcell hb
  have hz2 := hb.size
  (try simp at hz2)
  have hy2_0 : w.heap.size < w2.heap.size := (by omega)
  have HB2 := Lib.hid hb
  clear hb
  go_wp2_with fail
  refine (toD_calls _ _ _).mono ?_
  rintro e w3 ⟨rfl, hb⟩
  obtain ⟨hc3, hf3⟩ := bcell hb
  have hz3 := hb.size
  (try simp at hz3)
  have hy3_0 : w.heap.size < w3.heap.size := (by omega)
  have HB3 := Lib.hid hb
  clear hb
  go_wp2_with fail
  refine (goodI_calls _ _ _).mono ?_
  rintro e w4 ⟨rfl, hb⟩
  obtain ⟨hc4, hf4⟩ := bcell hb
  have hz4 := hb.size
  (try simp at hz4)
  have hy4_0 : w.heap.size < w4.heap.size := (by omega)
  have HB4 := Lib.hid hb
  clear hb
  generalize goodD t p = b
  cases b
  all_goals
    go_wp2_with fail
    go_ret
    refine ⟨rfl, ?_⟩
    (repeat' (first | exact Below.refl _ _ | refine Below.setCell ?_ ?_ _ | refine Below.alloc ?_ ?_ _ | refine Below.trans ?_ (HB4.out.mono ?_) | refine Below.trans ?_ (HB3.out.mono ?_) | refine Below.trans ?_ (HB2.out.mono ?_) | refine Below.trans ?_ (HB1.out.mono ?_))) <;> (first | omega | (simp; done) | (simp; omega))

set_option maxHeartbeats 400000 in
theorem fnExactNegDyadic_walk (t p : Int) (w : World) : Calls Try.prog 4 #[.agg #[.int .i64 t, .int .i64 p]] w fun e w' => e = .returned (.bool true) ∧ Below w.heap.size w w' := by
  by_cases hg : goodD t p = true
  · have HG := Lib.hid hg
    clear hg
    go_enter Try.func4, Try.ntmps4
    go_wp2_with fail
    refine (toD_calls _ _ _).mono ?_
    rintro e w1 ⟨rfl, hb⟩
    obtain ⟨hc1, hf1⟩ := bcell hb
    have hz1 := hb.size
    (try simp at hz1)
    have hy1_0 : w.heap.size < w1.heap.size := (by omega)
    have HB1 := Lib.hid hb
    clear hb
    go_wp2_with fail
    refine (negS_yes _ _ _ HG.out).mono ?_
    rintro e w2 ⟨rfl, hb⟩
    obtain ⟨hc2, hf2⟩ := bcell hb
    have hz2 := hb.size
    (try simp at hz2)
    have hy2_0 : w.heap.size < w2.heap.size := (by omega)
    have HB2 := Lib.hid hb
    clear hb
    go_wp2_with fail
    refine (toD_calls _ _ _).mono ?_
    rintro e w3 ⟨rfl, hb⟩
    obtain ⟨hc3, hf3⟩ := bcell hb
    have hz3 := hb.size
    (try simp at hz3)
    have hy3_0 : w.heap.size < w3.heap.size := (by omega)
    have hy3_1 : w2.heap.size < w3.heap.size := (by omega)
    have HB3 := Lib.hid hb
    clear hb
    go_wp2_with fail
    refine (negI_yes _ _ _ HG.out).mono ?_
    rintro e w4 ⟨rfl, hb⟩
    obtain ⟨hc4, hf4⟩ := bcell hb
    have hz4 := hb.size
    (try simp at hz4)
    have hy4_0 : w.heap.size < w4.heap.size := (by omega)
    have hy4_1 : w2.heap.size < w4.heap.size := (by omega)
    have HB4 := Lib.hid hb
    clear hb
    go_wp2_with fail
    refine (eqD_calls _ _ _).mono ?_
    rintro e w5 ⟨rfl, hb⟩
    obtain ⟨hc5, hf5⟩ := bcell hb
    have hz5 := hb.size
    (try simp at hz5)
    have hy5_0 : w.heap.size < w5.heap.size := (by omega)
    have hy5_1 : w2.heap.size < w5.heap.size := (by omega)
    have hy5_2 : w4.heap.size < w5.heap.size := (by omega)
    have HB5 := Lib.hid hb
    clear hb
    go_wp2_with fail
    go_ret
    refine ⟨rfl, ?_⟩
    (repeat' (first | exact Below.refl _ _ | refine Below.setCell ?_ ?_ _ | refine Below.alloc ?_ ?_ _ | refine Below.trans ?_ (HB5.out.mono ?_) | refine Below.trans ?_ (HB4.out.mono ?_) | refine Below.trans ?_ (HB3.out.mono ?_) | refine Below.trans ?_ (HB2.out.mono ?_) | refine Below.trans ?_ (HB1.out.mono ?_))) <;> (first | omega | (simp; done) | (simp; omega))

  · have HG := Lib.hid (by simpa using hg : goodD t p = false)
    clear hg
    go_enter Try.func4, Try.ntmps4
    go_wp2_with fail
    refine (toD_calls _ _ _).mono ?_
    rintro e w1 ⟨rfl, hb⟩
    obtain ⟨hc1, hf1⟩ := bcell hb
    have hz1 := hb.size
    (try simp at hz1)
    have hy1_0 : w.heap.size < w1.heap.size := (by omega)
    have HB1 := Lib.hid hb
    clear hb
    go_wp2_with fail
    refine (negS_no _ _ _ HG.out).mono ?_
    rintro e w2 ⟨rfl, hb⟩
    obtain ⟨hc2, hf2⟩ := bcell hb
    have hz2 := hb.size
    (try simp at hz2)
    have hy2_0 : w.heap.size < w2.heap.size := (by omega)
    have HB2 := Lib.hid hb
    clear hb
    go_wp2_with fail
    refine (toD_calls _ _ _).mono ?_
    rintro e w3 ⟨rfl, hb⟩
    obtain ⟨hc3, hf3⟩ := bcell hb
    have hz3 := hb.size
    (try simp at hz3)
    have hy3_0 : w.heap.size < w3.heap.size := (by omega)
    have hy3_1 : w2.heap.size < w3.heap.size := (by omega)
    have HB3 := Lib.hid hb
    clear hb
    go_wp2_with fail
    refine (negI_no _ _ _ HG.out).mono ?_
    rintro e w4 ⟨rfl, hb⟩
    obtain ⟨hc4, hf4⟩ := bcell hb
    have hz4 := hb.size
    (try simp at hz4)
    have hy4_0 : w.heap.size < w4.heap.size := (by omega)
    have hy4_1 : w2.heap.size < w4.heap.size := (by omega)
    have HB4 := Lib.hid hb
    clear hb
    go_wp2_with fail
    refine (eqD_calls _ _ _).mono ?_
    rintro e w5 ⟨rfl, hb⟩
    obtain ⟨hc5, hf5⟩ := bcell hb
    have hz5 := hb.size
    (try simp at hz5)
    have hy5_0 : w.heap.size < w5.heap.size := (by omega)
    have hy5_1 : w2.heap.size < w5.heap.size := (by omega)
    have hy5_2 : w4.heap.size < w5.heap.size := (by omega)
    have HB5 := Lib.hid hb
    clear hb
    go_wp2_with fail
    go_ret
    refine ⟨rfl, ?_⟩
    (repeat' (first | exact Below.refl _ _ | refine Below.setCell ?_ ?_ _ | refine Below.alloc ?_ ?_ _ | refine Below.trans ?_ (HB5.out.mono ?_) | refine Below.trans ?_ (HB4.out.mono ?_) | refine Below.trans ?_ (HB3.out.mono ?_) | refine Below.trans ?_ (HB2.out.mono ?_) | refine Below.trans ?_ (HB1.out.mono ?_))) <;> (first | omega | (simp; done) | (simp; omega))


end Go.Proofs.Ytlblkmhiildgeaa
