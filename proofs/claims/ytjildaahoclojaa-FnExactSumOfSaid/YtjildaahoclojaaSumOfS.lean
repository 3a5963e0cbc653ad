/- spec.SumOf answers the checksum. -/
import Derived.Test.YtjildaahoclojaaRows
import Derived.Test.YtjildaahoclojaaSumS
import Derived.WalkKit
import Derived.Lib.Hide
import Derived.WalkLawsBesides
import Derived.Outline
namespace Go.Proofs.Ytjildaahoclojaa
open Go.RowKit

set_option maxHeartbeats 400000 in
theorem sumOfS_big (s : ByteArray) (w : World) (hs : s.size ≤ maxLen) (h : 4000 < s.size) :
    Calls Try.prog 13 #[.string s] w fun e w' => e = .returned (.tuple #[.int .i64 0, .bool false]) ∧ w = w' := by
  unfold maxLen at hs
  go_enter Try.func13, Try.ntmps13
  go_wp2
  go_ret2
  exact ⟨rfl, rfl⟩

set_option maxHeartbeats 400000 in
theorem sumOfS_ok (s : ByteArray) (w : World) (h : s.size ≤ 4000) :
    Calls Try.prog 13 #[.string s] w fun e w' => e = .returned (.tuple #[.int .i64 (sumL s.data.toList), .bool true]) ∧ w = w' := by
  have hm : s.size ≤ maxLen := by unfold maxLen; omega
  go_enter Try.func13, Try.ntmps13
  go_wp2_with (go_at_call 18; refine (l1Sum_calls _ _ hm).mono ?_; rintro e w' ⟨rfl, rfl⟩)
  go_ret2
  exact ⟨rfl, rfl⟩

end Go.Proofs.Ytjildaahoclojaa
