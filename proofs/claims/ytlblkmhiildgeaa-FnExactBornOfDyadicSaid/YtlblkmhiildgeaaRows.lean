/-
  No cell of these rows narrows 'for every input' (looked for: loops, veiled, ifaces, maps, wideKeys, modest, calm, conditions, laid).
  DERIVED. THE GIVEN ROWS OF THIS SEAT. 4 by the template 'for every input the law returns true; each argument reads behind the call as it read before'; 0 by the template 'total and deterministic' (their statements: YtlblkmhiildgeaaTotals.lean).
  GIVEN WITH THE SEED: the statements are not yours to turn. If you find one false, say at which input.
  Laid BY PROGRAM, IN A SANDBOX (cutbox-rows.mjs): the forced cells as the released guide's own fill.sh prints them over the translation d99343bae59dfd70… (all of the seat's roots in one cut). By AI agents, Wed Nov 11 2026. No macro, syntax, notation, axiom, sorry.
-/
import Derived.Test.YtlblkmhiildgeaaChecked
import GoSem.Claim
import GoSem.ClaimJoined
import GoSem.ClaimMapViews
import Derived.JoinedTies
import Derived.KernelRfl
namespace Go.Proofs.Ytlblkmhiildgeaa
/- THE CELL 'sum', in the pinned program and in every row, IS THE sha256 OF THE DUMP (.gsa) THAT YtlblkmhiildgeaaProg.lean LOADS. Nothing in Lean hashes anything: it is a label: what it is worth is what the hold of that sum in a sandbox is worth. -/
noncomputable def Try.pinned : Pinned := { name := "ytlblkmhiildgeaa", sum := "d99343bae59dfd70701180c9d28eb76289bbc3a2487eb0e1164e7da211c2d6bd", checked := Try.checked }
namespace Rows
def none {H : Type} : Left H := { results := [], args := [] }

/-- 'laws.FnExactGoodDyadic': WHATEVER THE INPUT: true; the input reads as it did. -/
def fnExactGoodDyadicSpec : ChangeSpec := { name := "fnExactGoodDyadic", fn := fun _ => fun
  | [d] => { results := [.lit (.bool true)], args := [d] }
  | _ => none }
def fnExactGoodDyadicRow : OpenClaim := { program := "ytlblkmhiildgeaa", sum := "d99343bae59dfd70701180c9d28eb76289bbc3a2487eb0e1164e7da211c2d6bd", func := "loop.example/g00868/laws.FnExactGoodDyadic", spec := "fnExactGoodDyadic", apart := false }
def FnExactGoodDyadicSaid : Prop := fnExactGoodDyadicRow.holds Try.pinned (OpenSpec.ofChange fnExactGoodDyadicSpec)

/-- ITS FALSE NEIGHBOUR: 'it returns false'. Refute it at one input. -/
def fnExactGoodDyadicWrong : ChangeSpec := { name := "fnExactGoodDyadic", fn := fun _ => fun
  | [d] => { results := [.lit (.bool false)], args := [d] }
  | _ => none }
def FnExactGoodDyadicWrongFalsely : Prop := fnExactGoodDyadicRow.holds Try.pinned (OpenSpec.ofChange fnExactGoodDyadicWrong)

/-- 'laws.FnExactNegDyadic': WHATEVER THE INPUT: true; the input reads as it did. -/
def fnExactNegDyadicSpec : ChangeSpec := { name := "fnExactNegDyadic", fn := fun _ => fun
  | [d] => { results := [.lit (.bool true)], args := [d] }
  | _ => none }
def fnExactNegDyadicRow : OpenClaim := { program := "ytlblkmhiildgeaa", sum := "d99343bae59dfd70701180c9d28eb76289bbc3a2487eb0e1164e7da211c2d6bd", func := "loop.example/g00868/laws.FnExactNegDyadic", spec := "fnExactNegDyadic", unfollowed := true, recurses := true, apart := false }
def FnExactNegDyadicSaid : Prop := fnExactNegDyadicRow.holds Try.pinned (OpenSpec.ofChange fnExactNegDyadicSpec)

/-- ITS FALSE NEIGHBOUR: 'it returns false'. Refute it at one input. -/
def fnExactNegDyadicWrong : ChangeSpec := { name := "fnExactNegDyadic", fn := fun _ => fun
  | [d] => { results := [.lit (.bool false)], args := [d] }
  | _ => none }
def FnExactNegDyadicWrongFalsely : Prop := fnExactNegDyadicRow.holds Try.pinned (OpenSpec.ofChange fnExactNegDyadicWrong)

/-- 'laws.FnExactCompareDyadic': WHATEVER THE INPUT: true; the input reads as it did. -/
def fnExactCompareDyadicSpec : ChangeSpec := { name := "fnExactCompareDyadic", fn := fun _ => fun
  | [d1, d2] => { results := [.lit (.bool true)], args := [d1, d2] }
  | _ => none }
def fnExactCompareDyadicRow : OpenClaim := { program := "ytlblkmhiildgeaa", sum := "d99343bae59dfd70701180c9d28eb76289bbc3a2487eb0e1164e7da211c2d6bd", func := "loop.example/g00868/laws.FnExactCompareDyadic", spec := "fnExactCompareDyadic", apart := false }
def FnExactCompareDyadicSaid : Prop := fnExactCompareDyadicRow.holds Try.pinned (OpenSpec.ofChange fnExactCompareDyadicSpec)

/-- ITS FALSE NEIGHBOUR: 'it returns false'. Refute it at one input. -/
def fnExactCompareDyadicWrong : ChangeSpec := { name := "fnExactCompareDyadic", fn := fun _ => fun
  | [d1, d2] => { results := [.lit (.bool false)], args := [d1, d2] }
  | _ => none }
def FnExactCompareDyadicWrongFalsely : Prop := fnExactCompareDyadicRow.holds Try.pinned (OpenSpec.ofChange fnExactCompareDyadicWrong)

/-- 'laws.FnExactBornOfDyadic': WHATEVER THE INPUT: true; the input reads as it did. -/
def fnExactBornOfDyadicSpec : ChangeSpec := { name := "fnExactBornOfDyadic", fn := fun _ => fun
  | [d] => { results := [.lit (.bool true)], args := [d] }
  | _ => none }
def fnExactBornOfDyadicRow : OpenClaim := { program := "ytlblkmhiildgeaa", sum := "d99343bae59dfd70701180c9d28eb76289bbc3a2487eb0e1164e7da211c2d6bd", func := "loop.example/g00868/laws.FnExactBornOfDyadic", spec := "fnExactBornOfDyadic", unfollowed := true, recurses := true, apart := false }
def FnExactBornOfDyadicSaid : Prop := fnExactBornOfDyadicRow.holds Try.pinned (OpenSpec.ofChange fnExactBornOfDyadicSpec)

/-- ITS FALSE NEIGHBOUR: 'it returns false'. Refute it at one input. -/
def fnExactBornOfDyadicWrong : ChangeSpec := { name := "fnExactBornOfDyadic", fn := fun _ => fun
  | [d] => { results := [.lit (.bool false)], args := [d] }
  | _ => none }
def FnExactBornOfDyadicWrongFalsely : Prop := fnExactBornOfDyadicRow.holds Try.pinned (OpenSpec.ofChange fnExactBornOfDyadicWrong)

/- THE SECOND FORM. 'bulk': how many values and letters a reading holds, each counted each time it is reached (what is shared counts as often as it is met; a slice's spare places count too). A statement '..UptoSaid' is the law's where the arguments, and the package variables that the reading takes, are together of bulk at most 1048576: NARROWER than '..Said'. Prove '..Said' where nothing that the law and all that it calls make is longer than what came in: it says more and counts as full. Else prove '..UptoSaid'. A law counts once. -/
mutual
def uptoBulk {H : Type} : DataW H → Nat
  | .lit (.string bytes) => bytes.length + 1
  | .lit _ => 1
  | .nil => 1
  | .ptr d => uptoBulk d + 1
  | .slice elems spare => uptoBulkAll elems + uptoBulkAll spare + 1
  | .agg parts => uptoBulkAll parts + 1
  | .iface _ d => uptoBulk d + 1
  | .map entries => uptoBulkEntries entries + 1
  | .held _ => 1
def uptoBulkAll {H : Type} : List (DataW H) → Nat
  | [] => 0
  | d :: r => uptoBulk d + uptoBulkAll r
def uptoBulkEntries {H : Type} : List (Lit × DataW H) → Nat
  | [] => 0
  | x :: r => uptoBulkEntry x + uptoBulkEntries r
def uptoBulkEntry {H : Type} : Lit × DataW H → Nat
  | (.string bytes, d) => bytes.length + uptoBulk d + 1
  | (_, d) => uptoBulk d + 1
 end
def uptoSmall : (H : Type) → List (DataW H) → Bool := fun _ ds => decide (uptoBulkAll ds ≤ 1048576)
def OpenSpec.upto (s : _root_.Go.ChangeSpec) : _root_.Go.OpenSpec := { _root_.Go.OpenSpec.ofChange s with cond := some uptoSmall }

/-- 'laws.FnExactGoodDyadic', WHERE WHAT IT READS IS OF BULK AT MOST 1048576: true; the input reads as it did. -/
def fnExactGoodDyadicUptoRow : OpenClaim := { program := "ytlblkmhiildgeaa", sum := "d99343bae59dfd70701180c9d28eb76289bbc3a2487eb0e1164e7da211c2d6bd", func := "loop.example/g00868/laws.FnExactGoodDyadic", spec := "fnExactGoodDyadic", apart := false, narrowed := true }
def FnExactGoodDyadicUptoSaid : Prop := fnExactGoodDyadicUptoRow.holds Try.pinned (OpenSpec.upto fnExactGoodDyadicSpec)

/-- 'laws.FnExactNegDyadic', WHERE WHAT IT READS IS OF BULK AT MOST 1048576: true; the input reads as it did. -/
def fnExactNegDyadicUptoRow : OpenClaim := { program := "ytlblkmhiildgeaa", sum := "d99343bae59dfd70701180c9d28eb76289bbc3a2487eb0e1164e7da211c2d6bd", func := "loop.example/g00868/laws.FnExactNegDyadic", spec := "fnExactNegDyadic", unfollowed := true, recurses := true, apart := false, narrowed := true }
def FnExactNegDyadicUptoSaid : Prop := fnExactNegDyadicUptoRow.holds Try.pinned (OpenSpec.upto fnExactNegDyadicSpec)

/-- 'laws.FnExactCompareDyadic', WHERE WHAT IT READS IS OF BULK AT MOST 1048576: true; the input reads as it did. -/
def fnExactCompareDyadicUptoRow : OpenClaim := { program := "ytlblkmhiildgeaa", sum := "d99343bae59dfd70701180c9d28eb76289bbc3a2487eb0e1164e7da211c2d6bd", func := "loop.example/g00868/laws.FnExactCompareDyadic", spec := "fnExactCompareDyadic", apart := false, narrowed := true }
def FnExactCompareDyadicUptoSaid : Prop := fnExactCompareDyadicUptoRow.holds Try.pinned (OpenSpec.upto fnExactCompareDyadicSpec)

/-- 'laws.FnExactBornOfDyadic', WHERE WHAT IT READS IS OF BULK AT MOST 1048576: true; the input reads as it did. -/
def fnExactBornOfDyadicUptoRow : OpenClaim := { program := "ytlblkmhiildgeaa", sum := "d99343bae59dfd70701180c9d28eb76289bbc3a2487eb0e1164e7da211c2d6bd", func := "loop.example/g00868/laws.FnExactBornOfDyadic", spec := "fnExactBornOfDyadic", unfollowed := true, recurses := true, apart := false, narrowed := true }
def FnExactBornOfDyadicUptoSaid : Prop := fnExactBornOfDyadicUptoRow.holds Try.pinned (OpenSpec.upto fnExactBornOfDyadicSpec)

end Rows
end Go.Proofs.Ytlblkmhiildgeaa
