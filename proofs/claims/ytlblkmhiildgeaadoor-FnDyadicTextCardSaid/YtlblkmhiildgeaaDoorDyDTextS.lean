/- spec.DyadicText. -/
import Derived.Test.YtlblkmhiildgeaaDoorDyDText
namespace Go.Proofs.YtlblkmhiildgeaaDoor
open Go.RowKit
set_option linter.unusedVariables false

theorem dtextS_no (t p : Int) (w : World) (hg : goodD t p = false) : Calls Tryd.prog 27 #[.agg #[.int .i64 t, .int .i64 p]] w fun e w' => e = .returned (.tuple #[.string ⟨#[]⟩, .bool false]) ∧ Below w.heap.size w w' := by
  have HG := Lib.hid hg
  clear hg
  have hP0 := one_start w (.int .i64 t) (.int .i64 p) 25
  go_enter Tryd.func27, Tryd.ntmps27
  go_wp2_with fail
  refine ((goodS_calls _ _ _).mono fun e w' h => (HG.out ▸ h : _ ∧ _)).mono ?_
  rintro e w1 ⟨rfl, hb⟩
  have hP1 := one_next hb hP0
  have hQ := hP1
  obtain ⟨c10, c11, c12, HB1⟩ := hQ
  have hf1 := (bcell hb).2
  clear hb HB1
  go_wp2_with fail
  go_ret2
  exact ⟨rfl, hP1.2.2.2⟩

theorem dtextS_yes (t : Int) (p : Nat) (w : World) (h1 : -1000000 ≤ t) (h2 : t ≤ 1000000) (hp : p ≤ 16) (hg : goodD t p = true) : Calls Tryd.prog 27 #[.agg #[.int .i64 t, .int .i64 p]] w fun e w' => e = .returned (.tuple #[.string (bt (textD t p)), .bool true]) ∧ Below w.heap.size w w' := by
  have HG := Lib.hid hg
  clear hg
  have HX : ∀ W, Hid (Calls Tryd.prog 56 #[.agg #[.int .i64 t, .int .i64 p]] W fun e w' => e = .returned (.string (bt (textD t p))) ∧ Below W.heap.size W w') := fun W => Lib.hid (textS_any t p W h1 h2 hp)
  generalize bt (textD t p) = r at HX ⊢
  have hP0 := one_start w (.int .i64 t) (.int .i64 p) 25
  go_enter Tryd.func27, Tryd.ntmps27
  go_wp2_with fail
  refine ((goodS_calls _ _ _).mono fun e w' h => (HG.out ▸ h : _ ∧ _)).mono ?_
  rintro e w1 ⟨rfl, hb⟩
  have hP1 := one_next hb hP0
  have hQ := hP1
  obtain ⟨c10, c11, c12, HB1⟩ := hQ
  have hf1 := (bcell hb).2
  clear hb HB1
  go_wp2_with fail
  refine ((HX _).out).mono ?_
  rintro e w2 ⟨rfl, hb⟩
  have hP2 := one_next hb hP1
  have hQ := hP2
  obtain ⟨c20, c21, c22, HB2⟩ := hQ
  have hf2 := (bcell hb).2
  clear hb HB2
  go_wp2_with fail
  go_ret2
  exact ⟨rfl, hP2.2.2.2⟩

end Go.Proofs.YtlblkmhiildgeaaDoor
