/- Who wins the difference of two games. -/
import Derived.Test.YtjllpcnbahdmhaaOrMath
import Derived.Test.YtjllpcnbahdmhaaFmBase
namespace Go.Proofs.Ytjllpcnbahdmhaa
open Go.RowKit
set_option linter.unusedVariables false
set_option linter.unusedSimpArgs false

/-- who wins the difference of two games -/
def diffF (f g : List Nz) (l : Bool) : Bool := winF (f.map downN) (g.map downN) (f.length - 1) (g.length - 1) l

theorem held1 {w w' : World} {b : Nat} {v : Value} (h : w.cell? ⟨b, 0, none⟩ = some v) (hb : b < w.heap.size) (hB : Below w.heap.size w w') : w'.cell? ⟨b, 0, none⟩ = some v ∧ Below w.heap.size w w' := ⟨(bcell hB b 0 hb).trans h, hB⟩

end Go.Proofs.Ytjllpcnbahdmhaa
