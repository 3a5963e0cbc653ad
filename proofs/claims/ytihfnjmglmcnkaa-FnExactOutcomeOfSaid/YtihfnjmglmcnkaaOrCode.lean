/- The model's l4Code, and what says that a form is good. -/
import Derived.Test.YtihfnjmglmcnkaaOrMath
import Derived.Test.YtihfnjmglmcnkaaFmFits
import Derived.Test.YtihfnjmglmcnkaaFmLaw
namespace Go.Proofs.Ytihfnjmglmcnkaa
open Go.RowKit
set_option linter.unusedVariables false
set_option linter.unusedSimpArgs false

theorem goodS_res (v : Value) (f : List Nz) (r : Bool) (hr : Hid (goodB f = r)) (w : World) (lo hi : Nat) (hh : hi ≤ w.heap.size) (hv : NodesZ w lo hi v f) :
    Calls Try.prog 23 #[.agg #[v]] w fun e w' => e = .returned (.bool r) ∧ Below w.heap.size w w' := by
  rw [← hr.out]
  exact goodS_calls v f w lo hi hh hv

theorem l4Code_calls (m l : Bool) (w : World) : Calls Try.prog 58 #[.bool m, .bool l] w fun e w' => e = .returned (.int .i64 (codeOf m l)) ∧ w' = w := by
  cases m <;> cases l <;>
  · go_enter Try.func58, Try.ntmps58
    go_wp2
    go_ret
    exact ⟨rfl, rfl⟩

theorem held1 {w w' : World} {b : Nat} {v : Value} (h : w.cell? ⟨b, 0, none⟩ = some v) (hb : b < w.heap.size) (hB : Below w.heap.size w w') : w'.cell? ⟨b, 0, none⟩ = some v ∧ Below w.heap.size w w' := ⟨(bcell hB b 0 hb).trans h, hB⟩

end Go.Proofs.Ytihfnjmglmcnkaa
