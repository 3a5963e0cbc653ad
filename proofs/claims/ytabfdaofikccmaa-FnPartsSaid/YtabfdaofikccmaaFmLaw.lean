/- laws.szForm and what it calls: how many numbers stand in a form. -/
import Derived.Test.YtabfdaofikccmaaFmBase
import Derived.Deep.RegionHeld3
import Derived.Test.YtabfdaofikccmaaFmTo
import Derived.Deep.DeepCutAuto
namespace Go.Proofs.Ytabfdaofikccmaa
section
set_option linter.unusedVariables false
set_option linter.unusedSimpArgs false
open Go.RowKit
end
section
open Go.RowKit
end
section
open Go.RowKit
/-- a form, copied by the law, in any later world -/
def CopyOf (W : World) (v : Value) (f : List Nz) : Prop := ∃ lo hi, hi ≤ W.heap.size ∧ NodesZ W lo hi v f
theorem CopyOf.below {W W' : World} {v : Value} {f : List Nz} (h : CopyOf W v f) (hb : Below W.heap.size W W') : CopyOf W' v f := by
  obtain ⟨lo, hi, hh, h⟩ := h
  exact ⟨lo, hi, Nat.le_trans hh hb.size, h.below hb hh⟩
end

end Go.Proofs.Ytabfdaofikccmaa
