/- The walk of laws.FnExactSumOf: the two checksums agree. -/
import Derived.Test.YtjildaahoclojaaSumOfS
import Derived.Test.YtjildaahoclojaaSumI
namespace Go.Proofs.Ytjildaahoclojaa
open Go.RowKit

set_option maxHeartbeats 400000 in
theorem fnExactSumOf_walk (s : ByteArray) (hs : s.size ≤ maxLen) (w : World) :
    Calls Try.prog 5 #[.string s] w fun e w' => e = .returned (.bool true) ∧ Grown w w' := by
  have hs' := hs
  unfold maxLen at hs'
  by_cases hA : (1048576 : Nat) < s.size
  · go_enter Try.func5, Try.ntmps5
    go_wp2
    go_ret
    exact ⟨rfl, Grown.refl _⟩
  · by_cases hB : 4000 < s.size
    · go_enter Try.func5, Try.ntmps5
      go_wp2_with (first
        | (go_at_call 13; refine (sumOfS_big _ _ hs hB).mono ?_; rintro e w' ⟨rfl, rfl⟩)
        | (go_at_call 14; refine (sumOfI_big _ _ hs hB).mono ?_; rintro e w' ⟨rfl, rfl⟩))
      go_ret
      exact ⟨rfl, Grown.refl _⟩
    · have hC : s.size ≤ 4000 := by omega
      go_enter Try.func5, Try.ntmps5
      go_wp2_with (first
        | (go_at_call 13; refine (sumOfS_ok _ _ hC).mono ?_; rintro e w' ⟨rfl, rfl⟩)
        | (go_at_call 14; refine (sumOfI_ok _ _ hC).mono ?_; rintro e w' ⟨rfl, rfl⟩))
      go_ret
      exact ⟨rfl, Grown.refl _⟩

end Go.Proofs.Ytjildaahoclojaa
