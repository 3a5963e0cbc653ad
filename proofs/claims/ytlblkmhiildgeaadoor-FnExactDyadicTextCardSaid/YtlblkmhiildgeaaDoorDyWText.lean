/- The walk of laws.FnExactDyadicText. -/
import Derived.Test.YtlblkmhiildgeaaDoorDyDText
namespace Go.Proofs.YtlblkmhiildgeaaDoor
open Go.RowKit
set_option linter.unusedVariables false

theorem fnExactDyadicText_walk (t p : Int) (w : World) (hT : PowIs w) : Calls Tryd.prog 10 #[.agg #[.int .i64 t, .int .i64 p]] w fun e w' => e = .returned (.bool true) ∧ Below w.heap.size w w' := by
  by_cases hg : goodD t p = true
  · obtain ⟨q, rfl, hp, h1, h2, _⟩ := good_nat hg
    have HS : ∀ W, Hid (Calls Tryd.prog 27 #[.agg #[.int .i64 t, .int .i64 q]] W fun e w' => e = .returned (.tuple #[.string (bt (textD t q)), .bool true]) ∧ Below W.heap.size W w') := fun W => Lib.hid (dtextS_yes t q W h1 h2 hp hg)
    have HI : ∀ W, Below w.heap.size w W → Hid (Calls Tryd.prog 26 #[.agg #[.int .i64 t, .int .i64 q]] W fun e w' => e = .returned (.tuple #[.string (bt (textD t q)), .bool true]) ∧ Below W.heap.size W w') := fun W hb => Lib.hid (dtextI_yes t q W h1 h2 hp hg (hT.below hb))
    clear hg hT
    generalize bt (textD t q) = r at HS HI
    have hP0 := one_start w (.int .i64 t) (.int .i64 q) 46
    go_enter Tryd.func10, Tryd.ntmps10
    go_wp2_with fail
    refine (toD_calls _ _ _).mono ?_
    rintro e w1 ⟨rfl, hb⟩
    have hP1 := one_next hb hP0
    have hQ := hP1
    obtain ⟨c10, c11, c12, HB1⟩ := hQ
    have hf1 := (bcell hb).2
    clear hb HB1
    go_wp2_with fail
    refine ((HS _).out).mono ?_
    rintro e w2 ⟨rfl, hb⟩
    have hP2 := one_next hb hP1
    have hQ := hP2
    obtain ⟨c20, c21, c22, HB2⟩ := hQ
    have hf2 := (bcell hb).2
    clear hb HB2
    go_wp2_with fail
    refine (toD_calls _ _ _).mono ?_
    rintro e w3 ⟨rfl, hb⟩
    have hP3 := one_next hb hP2
    have hQ := hP3
    obtain ⟨c30, c31, c32, HB3⟩ := hQ
    have hf3 := (bcell hb).2
    clear hb HB3
    go_wp2_with fail
    refine ((HI _ hP3.2.2.2).out).mono ?_
    rintro e w4 ⟨rfl, hb⟩
    have hP4 := one_next hb hP3
    have hQ := hP4
    obtain ⟨c40, c41, c42, HB4⟩ := hQ
    have hf4 := (bcell hb).2
    clear hb HB4
    go_wp2_with fail
    go_ret
    exact ⟨rfl, hP4.2.2.2⟩
  · have HG := Lib.hid (by simpa using hg : goodD t p = false)
    clear hg hT
    have hP0 := one_start w (.int .i64 t) (.int .i64 p) 46
    go_enter Tryd.func10, Tryd.ntmps10
    go_wp2_with fail
    refine (toD_calls _ _ _).mono ?_
    rintro e w1 ⟨rfl, hb⟩
    have hP1 := one_next hb hP0
    have hQ := hP1
    obtain ⟨c10, c11, c12, HB1⟩ := hQ
    have hf1 := (bcell hb).2
    clear hb HB1
    go_wp2_with fail
    refine (dtextS_no _ _ _ HG.out).mono ?_
    rintro e w2 ⟨rfl, hb⟩
    have hP2 := one_next hb hP1
    have hQ := hP2
    obtain ⟨c20, c21, c22, HB2⟩ := hQ
    have hf2 := (bcell hb).2
    clear hb HB2
    go_wp2_with fail
    refine (toD_calls _ _ _).mono ?_
    rintro e w3 ⟨rfl, hb⟩
    have hP3 := one_next hb hP2
    have hQ := hP3
    obtain ⟨c30, c31, c32, HB3⟩ := hQ
    have hf3 := (bcell hb).2
    clear hb HB3
    go_wp2_with fail
    refine (dtextI_no _ _ _ HG.out).mono ?_
    rintro e w4 ⟨rfl, hb⟩
    have hP4 := one_next hb hP3
    have hQ := hP4
    obtain ⟨c40, c41, c42, HB4⟩ := hQ
    have hf4 := (bcell hb).2
    clear hb HB4
    go_wp2_with fail
    go_ret
    exact ⟨rfl, hP4.2.2.2⟩

end Go.Proofs.YtlblkmhiildgeaaDoor
