/- The laws' own test whether two numbers are one. -/
import Derived.Test.YtlblkmhiildgeaaDoorDyWorld
namespace Go.Proofs.YtlblkmhiildgeaaDoor
open Go.RowKit

theorem eqD_calls (t p : Int) (w : World) : Calls Tryd.prog 35 #[.agg #[.int .i64 t, .int .i64 p], .agg #[.int .i64 t, .int .i64 p]] w fun e w' => e = .returned (.bool true) ∧ Below w.heap.size w w' := by
  go_enter Tryd.func35, Tryd.ntmps35
  go_wp2
  go_ret
  exact ⟨rfl, ((Below.refl _ _).alloc (Nat.le_refl _) _).alloc (by simp) _⟩

end Go.Proofs.YtlblkmhiildgeaaDoor
