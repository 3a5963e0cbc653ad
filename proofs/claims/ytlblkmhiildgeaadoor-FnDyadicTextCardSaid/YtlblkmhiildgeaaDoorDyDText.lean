/- impl.DyadicText. -/
import Derived.Test.YtlblkmhiildgeaaDoorDyTxt
namespace Go.Proofs.YtlblkmhiildgeaaDoor
open Go.RowKit
set_option linter.unusedVariables false

theorem onlyGoodS_no (t p : Int) (f : Value) (w : World) (hg : goodD t p = false) : Calls Tryd.prog 54 #[.agg #[.int .i64 t, .int .i64 p], f] w fun e w' => e = .returned (.tuple #[.string ⟨#[]⟩, .bool false]) ∧ Below w.heap.size w w' := by
  have HG := Lib.hid hg
  clear hg
  have hP0 := one_start w (.int .i64 t) (.int .i64 p) 25
  go_enter Tryd.func54, Tryd.ntmps54
  go_wp2_with fail
  refine ((goodI_calls _ _ _).mono fun e w' h => (HG.out ▸ h : _ ∧ _)).mono ?_
  rintro e w1 ⟨rfl, hb⟩
  have hP1 := one_next hb hP0
  have hQ := hP1
  obtain ⟨c10, c11, c12, HB1⟩ := hQ
  have hf1 := (bcell hb).2
  clear hb HB1
  go_wp2_with fail
  go_ret2
  exact ⟨rfl, hP1.2.2.2⟩

theorem onlyGoodS_yes (t : Int) (p : Nat) (w : World) (h1 : -1000000 ≤ t) (h2 : t ≤ 1000000) (hp : p ≤ 16) (hg : goodD t p = true) (hT : PowIs w) : Calls Tryd.prog 54 #[.agg #[.int .i64 t, .int .i64 p], .func (.func 55) #[] #[]] w fun e w' => e = .returned (.tuple #[.string (bt (textD t p)), .bool true]) ∧ Below w.heap.size w w' := by
  have HG := Lib.hid hg
  clear hg
  have HX : ∀ W, Below w.heap.size w W → Hid (Calls Tryd.prog 55 #[.agg #[.int .i64 t, .int .i64 p]] W fun e w' => e = .returned (.string (bt (textD t p))) ∧ Below W.heap.size W w') := fun W hb => Lib.hid (textI_any t p W h1 h2 hp (hT.below hb))
  clear hT
  generalize bt (textD t p) = r at HX ⊢
  have hP0 := one_start w (.int .i64 t) (.int .i64 p) 25
  go_enter Tryd.func54, Tryd.ntmps54
  go_wp2_with fail
  refine ((goodI_calls _ _ _).mono fun e w' h => (HG.out ▸ h : _ ∧ _)).mono ?_
  rintro e w1 ⟨rfl, hb⟩
  have hP1 := one_next hb hP0
  have hQ := hP1
  obtain ⟨c10, c11, c12, HB1⟩ := hQ
  have hf1 := (bcell hb).2
  clear hb HB1
  go_wp2_with fail
  refine ((HX _ hP1.2.2.2).out).mono ?_
  rintro e w2 ⟨rfl, hb⟩
  have hP2 := one_next hb hP1
  have hQ := hP2
  obtain ⟨c20, c21, c22, HB2⟩ := hQ
  have hf2 := (bcell hb).2
  clear hb HB2
  go_wp2_with fail
  go_ret2
  exact ⟨rfl, hP2.2.2.2⟩

theorem dtextI_no (t p : Int) (w : World) (hg : goodD t p = false) : Calls Tryd.prog 26 #[.agg #[.int .i64 t, .int .i64 p]] w fun e w' => e = .returned (.tuple #[.string ⟨#[]⟩, .bool false]) ∧ Below w.heap.size w w' := by
  have HG := Lib.hid hg
  clear hg
  have hP0 := one_start w (.int .i64 t) (.int .i64 p) 25
  go_enter Tryd.func26, Tryd.ntmps26
  go_wp2_with fail
  refine (onlyGoodS_no _ _ _ _ HG.out).mono ?_
  rintro e w1 ⟨rfl, hb⟩
  have hP1 := one_next hb hP0
  have hQ := hP1
  obtain ⟨c10, c11, c12, HB1⟩ := hQ
  have hf1 := (bcell hb).2
  clear hb HB1
  go_wp2_with fail
  go_ret2
  exact ⟨rfl, hP1.2.2.2⟩

theorem dtextI_yes (t : Int) (p : Nat) (w : World) (h1 : -1000000 ≤ t) (h2 : t ≤ 1000000) (hp : p ≤ 16) (hg : goodD t p = true) (hT : PowIs w) : Calls Tryd.prog 26 #[.agg #[.int .i64 t, .int .i64 p]] w fun e w' => e = .returned (.tuple #[.string (bt (textD t p)), .bool true]) ∧ Below w.heap.size w w' := by
  have HX : ∀ W, Below w.heap.size w W → Hid (Calls Tryd.prog 54 #[.agg #[.int .i64 t, .int .i64 p], .func (.func 55) #[] #[]] W fun e w' => e = .returned (.tuple #[.string (bt (textD t p)), .bool true]) ∧ Below W.heap.size W w') := fun W hb => Lib.hid (onlyGoodS_yes t p W h1 h2 hp hg (hT.below hb))
  clear hT hg
  generalize bt (textD t p) = r at HX ⊢
  have hP0 := one_start w (.int .i64 t) (.int .i64 p) 25
  go_enter Tryd.func26, Tryd.ntmps26
  go_wp2_with fail
  refine ((HX _ hP0.2.2.2).out).mono ?_
  rintro e w1 ⟨rfl, hb⟩
  have hP1 := one_next hb hP0
  have hQ := hP1
  obtain ⟨c10, c11, c12, HB1⟩ := hQ
  have hf1 := (bcell hb).2
  clear hb HB1
  go_wp2_with fail
  go_ret2
  exact ⟨rfl, hP1.2.2.2⟩

end Go.Proofs.YtlblkmhiildgeaaDoor
