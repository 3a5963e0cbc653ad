/- A good number, told by both programs. -/
import Derived.Test.YtlblkmhiildgeaaDoorRows
import Derived.Test.YtlblkmhiildgeaaDoorDyMath
import Derived.Test.YtlblkmhiildgeaaDoorMath
import Derived.WalkKit
import Derived.Lib.Hide
import Derived.WalkLawsBesides
import Derived.WalkSpells
import Derived.Outline
import Derived.Deep.QuietTactic
import Derived.BigQuiet
namespace Go.Proofs.YtlblkmhiildgeaaDoor
open Go.RowKit

theorem ret_bool {a b : Bool} (h : a = b) : Ending.returned (.bool a) = .returned (.bool b) := by rw [h]

theorem tmod2_ne {t : Int} (h : t % 2 ≠ 0) : ¬ t.tmod 2 = 0 := by
  intro e
  apply h
  have := Int.emod_emod_of_dvd t (Int.dvd_refl 2)
  rw [← Int.dvd_iff_emod_eq_zero, Int.dvd_iff_tmod_eq_zero]
  exact e
theorem tmod2_eq {t : Int} (h : t % 2 = 0) : t.tmod 2 = 0 := by
  rw [← Int.dvd_iff_tmod_eq_zero, Int.dvd_iff_emod_eq_zero]
  exact h

/-- the ways of a number that may be good -/
theorem good_ways (t p : Int) : (t < -1000000 ∧ goodD t p = false) ∨ (-1000000 ≤ t ∧ 1000000 < t ∧ goodD t p = false) ∨ (-1000000 ≤ t ∧ t ≤ 1000000 ∧ p < 0 ∧ goodD t p = false) ∨
    (-1000000 ≤ t ∧ t ≤ 1000000 ∧ 0 ≤ p ∧ 16 < p ∧ goodD t p = false) ∨ (-1000000 ≤ t ∧ t ≤ 1000000 ∧ p = 0 ∧ goodD t 0 = true) ∨
    (-1000000 ≤ t ∧ t ≤ 1000000 ∧ 1 ≤ p ∧ p ≤ 16 ∧ t.tmod 2 = 0 ∧ goodD t p = false) ∨ (-1000000 ≤ t ∧ t ≤ 1000000 ∧ 1 ≤ p ∧ p ≤ 16 ∧ (t.tmod 2 ≠ 0) ∧ goodD t p = true) := by
  have hf : ∀ q, (goodD t q = false ↔ ¬ (-1000000 ≤ t ∧ t ≤ 1000000 ∧ 0 ≤ q ∧ q ≤ 16 ∧ (q = 0 ∨ t % 2 ≠ 0))) := fun q => by
    rw [← Bool.not_eq_true, goodD_iff]
  rw [hf p, goodD_iff, goodD_iff]
  by_cases h : t % 2 = 0
  · have := tmod2_eq h
    omega
  · have := tmod2_ne h
    omega

theorem int_eq0 {p : Int} (h : 1 ≤ p) : (p == 0) = false := by rw [beq_eq_false_iff_ne]; omega

theorem goodI_calls (t p : Int) (w : World) : Calls Tryd.prog 34 #[.agg #[.int .i64 t, .int .i64 p]] w fun e w' => e = .returned (.bool (goodD t p)) ∧ Below w.heap.size w w' := by
  rcases good_ways t p with ⟨h1, hg⟩ | ⟨h1, h2, hg⟩ | ⟨h1, h2, h3, hg⟩ | ⟨h1, h2, h3, h4, hg⟩ | ⟨h1, h2, rfl, hg⟩ | ⟨h1, h2, h3, h4, h5, hg⟩ | ⟨h1, h2, h3, h4, h5, hg⟩
  all_goals
    have HG := Lib.hid hg
    clear hg
    go_enter Tryd.func34, Tryd.ntmps34
    go_wp2
    go_ret
    exact ⟨ret_bool (by first | exact HG.out.symm | (rw [HG.out, int_eq0 h3]; done) | (rw [HG.out, int_eq0 h3]; simp [h5])), (Below.refl _ _).alloc (Nat.le_refl _) _⟩

theorem goodS_calls (t p : Int) (w : World) : Calls Tryd.prog 41 #[.agg #[.int .i64 t, .int .i64 p]] w fun e w' => e = .returned (.bool (goodD t p)) ∧ Below w.heap.size w w' := by
  rcases good_ways t p with ⟨h1, hg⟩ | ⟨h1, h2, hg⟩ | ⟨h1, h2, h3, hg⟩ | ⟨h1, h2, h3, h4, hg⟩ | ⟨h1, h2, rfl, hg⟩ | ⟨h1, h2, h3, h4, h5, hg⟩ | ⟨h1, h2, h3, h4, h5, hg⟩
  all_goals
    have HG := Lib.hid hg
    clear hg
    go_enter Tryd.func41, Tryd.ntmps41
    go_wp2_with (go_at_call 66; go_in)
    go_ret
    exact ⟨ret_bool (by first | exact HG.out.symm | (rw [HG.out, int_eq0 h3]; done) | (rw [HG.out, int_eq0 h3]; simp [h5])), (Below.refl _ _).alloc (Nat.le_refl _) _⟩

end Go.Proofs.YtlblkmhiildgeaaDoor
