/- laws.vBig. -/
import Derived.Test.YtabfdaofikccmaaCur
namespace Go.Proofs.Ytabfdaofikccmaa
open Go.RowKit
set_option linter.unusedVariables false
set_option linter.unusedSimpArgs false

set_option maxHeartbeats 400000 in
theorem vBig_calls (ao : Option Addr) (n c : Nat) (w : World) : Calls Try.prog 7 #[.slice ao n c] w fun e w' => e = .returned (.bool (decide (65536 < n))) ∧ w' = w := by
  by_cases h : 65536 < n
  · have h1 : (65536 : Int) < n := by omega
    rw [decide_eq_true h]
    go_enter Try.func7, Try.ntmps7
    go_wp2_with fail
    go_ret
    exact ⟨by simp [h1], rfl⟩
  · have h1 : ¬ (65536 : Int) < n := by omega
    rw [decide_eq_false h]
    go_enter Try.func7, Try.ntmps7
    go_wp2_with fail
    go_ret
    exact ⟨by simp [h1], rfl⟩

end Go.Proofs.Ytabfdaofikccmaa
