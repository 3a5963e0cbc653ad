/- Plain facts about bytes and numbers. They speak of no program. -/
import Derived.WalkKit
import Derived.Lib.Hide
namespace Go.Proofs.Ytabfdaofikccmaa

theorem ret_int {k : IntKind} {a b : Int} (h : a = b) : Ending.returned (.int k a) = .returned (.int k b) := by rw [h]

end Go.Proofs.Ytabfdaofikccmaa
