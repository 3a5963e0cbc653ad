/- A number that a law is given: two whole numbers. -/
import Derived.Test.YtlblkmhiildgeaaDoorRows
import Derived.WalkKit
import Derived.ProofKit
import Derived.OpenShut
import Derived.Lib.SmallJoins
namespace Go.Proofs.YtlblkmhiildgeaaDoor
open Go.Joins Go.ChangeShapes Go.WideShapes Go.RowKit

theorem cellsDy : Tryd.prog.cellsOf 46 = 2 := by kernel_rfl

set_option maxRecDepth 100000 in
theorem open_dyadic {H : Type} {enc : TypeId × Value → H} {w : World} {base b0 : Nat} {spare : Nat → Bool} {held : Bool} {r : Reach} {v : Value} {d : DataW H} {p : List MemPlace}
    (hv : Value.okWide Tryd.prog w r b0 46 v) (h : DataW.Trod enc Tryd.prog w base spare held 46 v d p) :
    ∃ t u : Int, v = .agg #[.int .i64 t, .int .i64 u] := by
  obtain ⟨x0, x1, y0, y1, n, rfl, rfl, rfl, g0, g1⟩ := open_agg2 Tryd.underlying46 (by kernel_rfl) cellsDy hv h
  obtain ⟨t, e0, _, _⟩ := DataW.trod_int Tryd.underlying3 g0
  obtain ⟨u, e1, _, _⟩ := DataW.trod_int Tryd.underlying3 g1
  injection e0 with e0 _
  injection e1 with e1 _
  subst e0
  subst e1
  exact ⟨t, u, rfl⟩

end Go.Proofs.YtlblkmhiildgeaaDoor
