/- When a number is born, by both programs; the walk of its law. -/
import Derived.Test.YtlblkmhiildgeaaDyCmp
namespace Go.Proofs.Ytlblkmhiildgeaa
open Go.RowKit

theorem bornI_any (t : Int) (p : Nat) (w : World) (h1 : -1000000 ≤ t) (h2 : t ≤ 1000000) (hp : p ≤ 16) : Calls Try.prog 26 #[.agg #[.int .i64 t, .int .i64 p]] w fun e w' => e = .returned (.int .i64 (bornD t p)) ∧ Below w.heap.size w w' := by
  by_cases h : p = 0
  · subst h
    exact born_int t w h1 h2
  · exact born_frac t p w h1 h2 (by omega) hp

theorem bornS_any (t : Int) (p : Nat) (w : World) (h1 : -1000000 ≤ t) (h2 : t ≤ 1000000) (hp : p ≤ 16) : Calls Try.prog 24 #[.agg #[.int .i64 t, .int .i64 p]] w fun e w' => e = .returned (.int .i64 (bornD t p)) ∧ Below w.heap.size w w' := by
  by_cases h : p = 0
  · subst h
    exact l2Born_int t w h1 h2
  · exact l2Born_frac t p w h1 h2 (by omega) hp

theorem onlyGoodI_no (t p : Int) (f : Value) (w : World) (hg : goodD t p = false) : Calls Try.prog 25 #[.agg #[.int .i64 t, .int .i64 p], f] w fun e w' => e = .returned (.tuple #[.int .i64 0, .bool false]) ∧ Below w.heap.size w w' := by
  have HG := Lib.hid hg
  clear hg
  have hP0 := one_start w (.int .i64 t) (.int .i64 p) 25
  go_enter Try.func25, Try.ntmps25
  go_wp2_with fail
  refine ((goodI_calls _ _ _).mono fun e w' h => (HG.out ▸ h : _ ∧ _)).mono ?_
  rintro e w1 ⟨rfl, hb⟩
  have hP1 := one_next hb hP0
  have hQ := hP1
  obtain ⟨c10, c11, c12, HB1⟩ := hQ
  clear hb HB1
  go_wp2_with fail
  go_ret2
  exact ⟨rfl, hP1.2.2.2⟩

theorem onlyGoodI_yes (t : Int) (p : Nat) (w : World) (h1 : -1000000 ≤ t) (h2 : t ≤ 1000000) (hp : p ≤ 16) (hg : goodD t p = true) : Calls Try.prog 25 #[.agg #[.int .i64 t, .int .i64 p], .func (.func 26) #[] #[]] w fun e w' => e = .returned (.tuple #[.int .i64 (bornD t p), .bool true]) ∧ Below w.heap.size w w' := by
  have HG := Lib.hid hg
  clear hg
  have hP0 := one_start w (.int .i64 t) (.int .i64 p) 25
  go_enter Try.func25, Try.ntmps25
  go_wp2_with fail
  refine ((goodI_calls _ _ _).mono fun e w' h => (HG.out ▸ h : _ ∧ _)).mono ?_
  rintro e w1 ⟨rfl, hb⟩
  have hP1 := one_next hb hP0
  have hQ := hP1
  obtain ⟨c10, c11, c12, HB1⟩ := hQ
  clear hb HB1
  go_wp2_with fail
  refine (bornI_any _ _ _ h1 h2 hp).mono ?_
  rintro e w2 ⟨rfl, hb⟩
  have hP2 := one_next hb hP1
  have hQ := hP2
  obtain ⟨c20, c21, c22, HB2⟩ := hQ
  clear hb HB2
  go_wp2_with fail
  go_ret2
  exact ⟨rfl, hP2.2.2.2⟩

theorem bornOfI_no (t p : Int) (w : World) (hg : goodD t p = false) : Calls Try.prog 16 #[.agg #[.int .i64 t, .int .i64 p]] w fun e w' => e = .returned (.tuple #[.int .i64 0, .bool false]) ∧ Below w.heap.size w w' := by
  have HG := Lib.hid hg
  clear hg
  have hP0 := one_start w (.int .i64 t) (.int .i64 p) 25
  go_enter Try.func16, Try.ntmps16
  go_wp2_with fail
  refine (onlyGoodI_no _ _ _ _ HG.out).mono ?_
  rintro e w1 ⟨rfl, hb⟩
  have hP1 := one_next hb hP0
  have hQ := hP1
  obtain ⟨c10, c11, c12, HB1⟩ := hQ
  clear hb HB1
  go_wp2_with fail
  go_ret2
  exact ⟨rfl, hP1.2.2.2⟩

theorem bornOfI_yes (t : Int) (p : Nat) (w : World) (h1 : -1000000 ≤ t) (h2 : t ≤ 1000000) (hp : p ≤ 16) (hg : goodD t p = true) : Calls Try.prog 16 #[.agg #[.int .i64 t, .int .i64 p]] w fun e w' => e = .returned (.tuple #[.int .i64 (bornD t p), .bool true]) ∧ Below w.heap.size w w' := by
  have HG := Lib.hid hg
  clear hg
  have hP0 := one_start w (.int .i64 t) (.int .i64 p) 25
  go_enter Try.func16, Try.ntmps16
  go_wp2_with fail
  refine (onlyGoodI_yes _ _ _ h1 h2 hp HG.out).mono ?_
  rintro e w1 ⟨rfl, hb⟩
  have hP1 := one_next hb hP0
  have hQ := hP1
  obtain ⟨c10, c11, c12, HB1⟩ := hQ
  clear hb HB1
  go_wp2_with fail
  go_ret2
  exact ⟨rfl, hP1.2.2.2⟩

theorem bornOfS_no (t p : Int) (w : World) (hg : goodD t p = false) : Calls Try.prog 15 #[.agg #[.int .i64 t, .int .i64 p]] w fun e w' => e = .returned (.tuple #[.int .i64 0, .bool false]) ∧ Below w.heap.size w w' := by
  have HG := Lib.hid hg
  clear hg
  have hP0 := one_start w (.int .i64 t) (.int .i64 p) 25
  go_enter Try.func15, Try.ntmps15
  go_wp2_with fail
  refine ((goodS_calls _ _ _).mono fun e w' h => (HG.out ▸ h : _ ∧ _)).mono ?_
  rintro e w1 ⟨rfl, hb⟩
  have hP1 := one_next hb hP0
  have hQ := hP1
  obtain ⟨c10, c11, c12, HB1⟩ := hQ
  clear hb HB1
  go_wp2_with fail
  go_ret2
  exact ⟨rfl, hP1.2.2.2⟩

theorem bornOfS_yes (t : Int) (p : Nat) (w : World) (h1 : -1000000 ≤ t) (h2 : t ≤ 1000000) (hp : p ≤ 16) (hg : goodD t p = true) : Calls Try.prog 15 #[.agg #[.int .i64 t, .int .i64 p]] w fun e w' => e = .returned (.tuple #[.int .i64 (bornD t p), .bool true]) ∧ Below w.heap.size w w' := by
  have HG := Lib.hid hg
  clear hg
  have hP0 := one_start w (.int .i64 t) (.int .i64 p) 25
  go_enter Try.func15, Try.ntmps15
  go_wp2_with fail
  refine ((goodS_calls _ _ _).mono fun e w' h => (HG.out ▸ h : _ ∧ _)).mono ?_
  rintro e w1 ⟨rfl, hb⟩
  have hP1 := one_next hb hP0
  have hQ := hP1
  obtain ⟨c10, c11, c12, HB1⟩ := hQ
  clear hb HB1
  go_wp2_with fail
  refine (bornS_any _ _ _ h1 h2 hp).mono ?_
  rintro e w2 ⟨rfl, hb⟩
  have hP2 := one_next hb hP1
  have hQ := hP2
  obtain ⟨c20, c21, c22, HB2⟩ := hQ
  clear hb HB2
  go_wp2_with fail
  go_ret2
  exact ⟨rfl, hP2.2.2.2⟩

theorem fnExactBornOfDyadic_walk (t p : Int) (w : World) : Calls Try.prog 6 #[.agg #[.int .i64 t, .int .i64 p]] w fun e w' => e = .returned (.bool true) ∧ Below w.heap.size w w' := by
  by_cases hg : goodD t p = true
  · obtain ⟨q, rfl, hp, h1, h2, _⟩ := good_nat hg
    have HG := Lib.hid hg
    clear hg
    have hP0 := one_start w (.int .i64 t) (.int .i64 q) 23
    go_enter Try.func6, Try.ntmps6
    go_wp2_with fail
    refine (toD_calls _ _ _).mono ?_
    rintro e w1 ⟨rfl, hb⟩
    have hP1 := one_next hb hP0
    have hQ := hP1
    obtain ⟨c10, c11, c12, HB1⟩ := hQ
    clear hb HB1
    go_wp2_with fail
    refine (bornOfS_yes _ _ _ h1 h2 hp HG.out).mono ?_
    rintro e w2 ⟨rfl, hb⟩
    have hP2 := one_next hb hP1
    have hQ := hP2
    obtain ⟨c20, c21, c22, HB2⟩ := hQ
    clear hb HB2
    go_wp2_with fail
    refine (toD_calls _ _ _).mono ?_
    rintro e w3 ⟨rfl, hb⟩
    have hP3 := one_next hb hP2
    have hQ := hP3
    obtain ⟨c30, c31, c32, HB3⟩ := hQ
    clear hb HB3
    go_wp2_with fail
    refine (bornOfI_yes _ _ _ h1 h2 hp HG.out).mono ?_
    rintro e w4 ⟨rfl, hb⟩
    have hP4 := one_next hb hP3
    have hQ := hP4
    obtain ⟨c40, c41, c42, HB4⟩ := hQ
    clear hb HB4
    go_wp2_with fail
    go_ret
    exact ⟨rfl, hP4.2.2.2⟩
  · have HG := Lib.hid (by simpa using hg : goodD t p = false)
    clear hg
    have hP0 := one_start w (.int .i64 t) (.int .i64 p) 23
    go_enter Try.func6, Try.ntmps6
    go_wp2_with fail
    refine (toD_calls _ _ _).mono ?_
    rintro e w1 ⟨rfl, hb⟩
    have hP1 := one_next hb hP0
    have hQ := hP1
    obtain ⟨c10, c11, c12, HB1⟩ := hQ
    clear hb HB1
    go_wp2_with fail
    refine (bornOfS_no _ _ _ HG.out).mono ?_
    rintro e w2 ⟨rfl, hb⟩
    have hP2 := one_next hb hP1
    have hQ := hP2
    obtain ⟨c20, c21, c22, HB2⟩ := hQ
    clear hb HB2
    go_wp2_with fail
    refine (toD_calls _ _ _).mono ?_
    rintro e w3 ⟨rfl, hb⟩
    have hP3 := one_next hb hP2
    have hQ := hP3
    obtain ⟨c30, c31, c32, HB3⟩ := hQ
    clear hb HB3
    go_wp2_with fail
    refine (bornOfI_no _ _ _ HG.out).mono ?_
    rintro e w4 ⟨rfl, hb⟩
    have hP4 := one_next hb hP3
    have hQ := hP4
    obtain ⟨c40, c41, c42, HB4⟩ := hQ
    clear hb HB4
    go_wp2_with fail
    go_ret
    exact ⟨rfl, hP4.2.2.2⟩

end Go.Proofs.Ytlblkmhiildgeaa
