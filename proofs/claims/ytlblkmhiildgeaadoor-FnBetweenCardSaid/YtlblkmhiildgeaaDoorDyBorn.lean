/- When a number is born, by the program. -/
import Derived.Test.YtlblkmhiildgeaaDoorDyCmp
namespace Go.Proofs.YtlblkmhiildgeaaDoor
open Go.RowKit

theorem bornI_any (t : Int) (p : Nat) (w : World) (h1 : -1000000 ≤ t) (h2 : t ≤ 1000000) (hp : p ≤ 16) : Calls Tryd.prog 53 #[.agg #[.int .i64 t, .int .i64 p]] w fun e w' => e = .returned (.int .i64 (bornD t p)) ∧ Below w.heap.size w w' := by
  by_cases h : p = 0
  · subst h
    exact born_int t w h1 h2
  · exact born_frac t p w h1 h2 (by omega) hp

theorem onlyGoodI_no (t p : Int) (f : Value) (w : World) (hg : goodD t p = false) : Calls Tryd.prog 52 #[.agg #[.int .i64 t, .int .i64 p], f] w fun e w' => e = .returned (.tuple #[.int .i64 0, .bool false]) ∧ Below w.heap.size w w' := by
  have HG := Lib.hid hg
  clear hg
  have hP0 := one_start w (.int .i64 t) (.int .i64 p) 25
  go_enter Tryd.func52, Tryd.ntmps52
  go_wp2_with fail
  refine ((goodI_calls _ _ _).mono fun e w' h => (HG.out ▸ h : _ ∧ _)).mono ?_
  rintro e w1 ⟨rfl, hb⟩
  have hP1 := one_next hb hP0
  have hQ := hP1
  obtain ⟨c10, c11, c12, HB1⟩ := hQ
  have hf1 := (bcell hb).2
  clear hb HB1
  go_wp2_with fail
  go_ret2
  exact ⟨rfl, hP1.2.2.2⟩

theorem onlyGoodI_yes (t : Int) (p : Nat) (w : World) (h1 : -1000000 ≤ t) (h2 : t ≤ 1000000) (hp : p ≤ 16) (hg : goodD t p = true) : Calls Tryd.prog 52 #[.agg #[.int .i64 t, .int .i64 p], .func (.func 53) #[] #[]] w fun e w' => e = .returned (.tuple #[.int .i64 (bornD t p), .bool true]) ∧ Below w.heap.size w w' := by
  have HG := Lib.hid hg
  clear hg
  have hP0 := one_start w (.int .i64 t) (.int .i64 p) 25
  go_enter Tryd.func52, Tryd.ntmps52
  go_wp2_with fail
  refine ((goodI_calls _ _ _).mono fun e w' h => (HG.out ▸ h : _ ∧ _)).mono ?_
  rintro e w1 ⟨rfl, hb⟩
  have hP1 := one_next hb hP0
  have hQ := hP1
  obtain ⟨c10, c11, c12, HB1⟩ := hQ
  have hf1 := (bcell hb).2
  clear hb HB1
  go_wp2_with fail
  refine (bornI_any _ _ _ h1 h2 hp).mono ?_
  rintro e w2 ⟨rfl, hb⟩
  have hP2 := one_next hb hP1
  have hQ := hP2
  obtain ⟨c20, c21, c22, HB2⟩ := hQ
  have hf2 := (bcell hb).2
  clear hb HB2
  go_wp2_with fail
  go_ret2
  exact ⟨rfl, hP2.2.2.2⟩

theorem bornOfI_no (t p : Int) (w : World) (hg : goodD t p = false) : Calls Tryd.prog 24 #[.agg #[.int .i64 t, .int .i64 p]] w fun e w' => e = .returned (.tuple #[.int .i64 0, .bool false]) ∧ Below w.heap.size w w' := by
  have HG := Lib.hid hg
  clear hg
  have hP0 := one_start w (.int .i64 t) (.int .i64 p) 25
  go_enter Tryd.func24, Tryd.ntmps24
  go_wp2_with fail
  refine (onlyGoodI_no _ _ _ _ HG.out).mono ?_
  rintro e w1 ⟨rfl, hb⟩
  have hP1 := one_next hb hP0
  have hQ := hP1
  obtain ⟨c10, c11, c12, HB1⟩ := hQ
  have hf1 := (bcell hb).2
  clear hb HB1
  go_wp2_with fail
  go_ret2
  exact ⟨rfl, hP1.2.2.2⟩

theorem bornOfI_yes (t : Int) (p : Nat) (w : World) (h1 : -1000000 ≤ t) (h2 : t ≤ 1000000) (hp : p ≤ 16) (hg : goodD t p = true) : Calls Tryd.prog 24 #[.agg #[.int .i64 t, .int .i64 p]] w fun e w' => e = .returned (.tuple #[.int .i64 (bornD t p), .bool true]) ∧ Below w.heap.size w w' := by
  have HG := Lib.hid hg
  clear hg
  have hP0 := one_start w (.int .i64 t) (.int .i64 p) 25
  go_enter Tryd.func24, Tryd.ntmps24
  go_wp2_with fail
  refine (onlyGoodI_yes _ _ _ h1 h2 hp HG.out).mono ?_
  rintro e w1 ⟨rfl, hb⟩
  have hP1 := one_next hb hP0
  have hQ := hP1
  obtain ⟨c10, c11, c12, HB1⟩ := hQ
  have hf1 := (bcell hb).2
  clear hb HB1
  go_wp2_with fail
  go_ret2
  exact ⟨rfl, hP1.2.2.2⟩

end Go.Proofs.YtlblkmhiildgeaaDoor
