/- The laws' own test whether two numbers are one. -/
import Derived.Test.YtlblkmhiildgeabDoorDyWorld
namespace Go.Proofs.YtlblkmhiildgeabDoor
open Go.RowKit

theorem eqD_calls (t p : Int) (w : World) : Calls Tryd.prog 6 #[.agg #[.int .i64 t, .int .i64 p], .agg #[.int .i64 t, .int .i64 p]] w fun e w' => e = .returned (.bool true) ∧ Below w.heap.size w w' := by
  go_enter Tryd.func6, Tryd.ntmps6
  go_wp2
  go_ret
  exact ⟨rfl, ((Below.refl _ _).alloc (Nat.le_refl _) _).alloc (by simp) _⟩

end Go.Proofs.YtlblkmhiildgeabDoor
