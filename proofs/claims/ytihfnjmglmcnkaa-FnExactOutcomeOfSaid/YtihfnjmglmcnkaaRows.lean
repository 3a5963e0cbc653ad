/-
  No cell of these rows narrows 'for every input' (looked for: loops, veiled, ifaces, maps, wideKeys, modest, calm, conditions, laid).
  DERIVED. THE GIVEN ROWS OF THIS SEAT. 4 by the template 'for every input the law returns true; each argument reads behind the call as it read before'; 0 by the template 'total and deterministic' (their statements: YtihfnjmglmcnkaaTotals.lean).
  GIVEN WITH THE SEED: the statements are not yours to turn. If you find one false, say at which input.
  Laid BY PROGRAM, IN A SANDBOX (cutbox-rows.mjs): the forced cells as the released guide's own fill.sh prints them over the translation a38def1f603d5650… (all of the seat's roots in one cut). By AI agents, Wed Nov 11 2026. No macro, syntax, notation, axiom, sorry.
-/
import Derived.Test.YtihfnjmglmcnkaaChecked
import GoSem.Claim
import GoSem.ClaimJoined
import GoSem.ClaimMapViews
import Derived.JoinedTies
import Derived.KernelRfl
namespace Go.Proofs.Ytihfnjmglmcnkaa
/- THE CELL 'sum', in the pinned program and in every row, IS THE sha256 OF THE DUMP (.gsa) THAT YtihfnjmglmcnkaaProg.lean LOADS. Nothing in Lean hashes anything: it is a label: what it is worth is what the hold of that sum in a sandbox is worth. -/
noncomputable def Try.pinned : Pinned := { name := "ytihfnjmglmcnkaa", sum := "a38def1f603d56501ffd535a7beba771610694a4ae8de7dcf882e962236e83e7", checked := Try.checked }
namespace Rows
def none {H : Type} : Left H := { results := [], args := [] }

/-- 'laws.FnExactDominatedIn': WHATEVER THE INPUT: true; the input reads as it did. -/
def fnExactDominatedInSpec : ChangeSpec := { name := "fnExactDominatedIn", fn := fun _ => fun
  | [d] => { results := [.lit (.bool true)], args := [d] }
  | _ => none }
def fnExactDominatedInRow : OpenClaim := { program := "ytihfnjmglmcnkaa", sum := "a38def1f603d56501ffd535a7beba771610694a4ae8de7dcf882e962236e83e7", func := "loop.example/g00868/laws.FnExactDominatedIn", spec := "fnExactDominatedIn", recurses := true, apart := false }
def FnExactDominatedInSaid : Prop := fnExactDominatedInRow.holds Try.pinned (OpenSpec.ofChange fnExactDominatedInSpec)

/-- ITS FALSE NEIGHBOUR: 'it returns false'. Refute it at one input. -/
def fnExactDominatedInWrong : ChangeSpec := { name := "fnExactDominatedIn", fn := fun _ => fun
  | [d] => { results := [.lit (.bool false)], args := [d] }
  | _ => none }
def FnExactDominatedInWrongFalsely : Prop := fnExactDominatedInRow.holds Try.pinned (OpenSpec.ofChange fnExactDominatedInWrong)

/-- 'laws.FnExactReversibleIn': WHATEVER THE INPUT: true; the input reads as it did. -/
def fnExactReversibleInSpec : ChangeSpec := { name := "fnExactReversibleIn", fn := fun _ => fun
  | [d] => { results := [.lit (.bool true)], args := [d] }
  | _ => none }
def fnExactReversibleInRow : OpenClaim := { program := "ytihfnjmglmcnkaa", sum := "a38def1f603d56501ffd535a7beba771610694a4ae8de7dcf882e962236e83e7", func := "loop.example/g00868/laws.FnExactReversibleIn", spec := "fnExactReversibleIn", recurses := true, apart := false }
def FnExactReversibleInSaid : Prop := fnExactReversibleInRow.holds Try.pinned (OpenSpec.ofChange fnExactReversibleInSpec)

/-- ITS FALSE NEIGHBOUR: 'it returns false'. Refute it at one input. -/
def fnExactReversibleInWrong : ChangeSpec := { name := "fnExactReversibleIn", fn := fun _ => fun
  | [d] => { results := [.lit (.bool false)], args := [d] }
  | _ => none }
def FnExactReversibleInWrongFalsely : Prop := fnExactReversibleInRow.holds Try.pinned (OpenSpec.ofChange fnExactReversibleInWrong)

/-- 'laws.FnExactIsCanon': WHATEVER THE INPUT: true; the input reads as it did. -/
def fnExactIsCanonSpec : ChangeSpec := { name := "fnExactIsCanon", fn := fun _ => fun
  | [d] => { results := [.lit (.bool true)], args := [d] }
  | _ => none }
def fnExactIsCanonRow : OpenClaim := { program := "ytihfnjmglmcnkaa", sum := "a38def1f603d56501ffd535a7beba771610694a4ae8de7dcf882e962236e83e7", func := "loop.example/g00868/laws.FnExactIsCanon", spec := "fnExactIsCanon", recurses := true, apart := false }
def FnExactIsCanonSaid : Prop := fnExactIsCanonRow.holds Try.pinned (OpenSpec.ofChange fnExactIsCanonSpec)

/-- ITS FALSE NEIGHBOUR: 'it returns false'. Refute it at one input. -/
def fnExactIsCanonWrong : ChangeSpec := { name := "fnExactIsCanon", fn := fun _ => fun
  | [d] => { results := [.lit (.bool false)], args := [d] }
  | _ => none }
def FnExactIsCanonWrongFalsely : Prop := fnExactIsCanonRow.holds Try.pinned (OpenSpec.ofChange fnExactIsCanonWrong)

/-- 'laws.FnExactOutcomeOf': WHATEVER THE INPUT: true; the input reads as it did. -/
def fnExactOutcomeOfSpec : ChangeSpec := { name := "fnExactOutcomeOf", fn := fun _ => fun
  | [d] => { results := [.lit (.bool true)], args := [d] }
  | _ => none }
def fnExactOutcomeOfRow : OpenClaim := { program := "ytihfnjmglmcnkaa", sum := "a38def1f603d56501ffd535a7beba771610694a4ae8de7dcf882e962236e83e7", func := "loop.example/g00868/laws.FnExactOutcomeOf", spec := "fnExactOutcomeOf", recurses := true, apart := false }
def FnExactOutcomeOfSaid : Prop := fnExactOutcomeOfRow.holds Try.pinned (OpenSpec.ofChange fnExactOutcomeOfSpec)

/-- ITS FALSE NEIGHBOUR: 'it returns false'. Refute it at one input. -/
def fnExactOutcomeOfWrong : ChangeSpec := { name := "fnExactOutcomeOf", fn := fun _ => fun
  | [d] => { results := [.lit (.bool false)], args := [d] }
  | _ => none }
def FnExactOutcomeOfWrongFalsely : Prop := fnExactOutcomeOfRow.holds Try.pinned (OpenSpec.ofChange fnExactOutcomeOfWrong)

/- THE SECOND FORM. 'bulk': how many values and letters a reading holds, each counted each time it is reached (what is shared counts as often as it is met; a slice's spare places count too). A statement '..UptoSaid' is the law's where the arguments, and the package variables that the reading takes, are together of bulk at most 1048576: NARROWER than '..Said'. Prove '..Said' where nothing that the law and all that it calls make is longer than what came in: it says more and counts as full. Else prove '..UptoSaid'. A law counts once. -/
mutual
def uptoBulk {H : Type} : DataW H → Nat
  | .lit (.string bytes) => bytes.length + 1
  | .lit _ => 1
  | .nil => 1
  | .ptr d => uptoBulk d + 1
  | .slice elems spare => uptoBulkAll elems + uptoBulkAll spare + 1
  | .agg parts => uptoBulkAll parts + 1
  | .iface _ d => uptoBulk d + 1
  | .map entries => uptoBulkEntries entries + 1
  | .held _ => 1
def uptoBulkAll {H : Type} : List (DataW H) → Nat
  | [] => 0
  | d :: r => uptoBulk d + uptoBulkAll r
def uptoBulkEntries {H : Type} : List (Lit × DataW H) → Nat
  | [] => 0
  | x :: r => uptoBulkEntry x + uptoBulkEntries r
def uptoBulkEntry {H : Type} : Lit × DataW H → Nat
  | (.string bytes, d) => bytes.length + uptoBulk d + 1
  | (_, d) => uptoBulk d + 1
 end
def uptoSmall : (H : Type) → List (DataW H) → Bool := fun _ ds => decide (uptoBulkAll ds ≤ 1048576)
def OpenSpec.upto (s : _root_.Go.ChangeSpec) : _root_.Go.OpenSpec := { _root_.Go.OpenSpec.ofChange s with cond := some uptoSmall }

/-- 'laws.FnExactDominatedIn', WHERE WHAT IT READS IS OF BULK AT MOST 1048576: true; the input reads as it did. -/
def fnExactDominatedInUptoRow : OpenClaim := { program := "ytihfnjmglmcnkaa", sum := "a38def1f603d56501ffd535a7beba771610694a4ae8de7dcf882e962236e83e7", func := "loop.example/g00868/laws.FnExactDominatedIn", spec := "fnExactDominatedIn", recurses := true, apart := false, narrowed := true }
def FnExactDominatedInUptoSaid : Prop := fnExactDominatedInUptoRow.holds Try.pinned (OpenSpec.upto fnExactDominatedInSpec)

/-- 'laws.FnExactReversibleIn', WHERE WHAT IT READS IS OF BULK AT MOST 1048576: true; the input reads as it did. -/
def fnExactReversibleInUptoRow : OpenClaim := { program := "ytihfnjmglmcnkaa", sum := "a38def1f603d56501ffd535a7beba771610694a4ae8de7dcf882e962236e83e7", func := "loop.example/g00868/laws.FnExactReversibleIn", spec := "fnExactReversibleIn", recurses := true, apart := false, narrowed := true }
def FnExactReversibleInUptoSaid : Prop := fnExactReversibleInUptoRow.holds Try.pinned (OpenSpec.upto fnExactReversibleInSpec)

/-- 'laws.FnExactIsCanon', WHERE WHAT IT READS IS OF BULK AT MOST 1048576: true; the input reads as it did. -/
def fnExactIsCanonUptoRow : OpenClaim := { program := "ytihfnjmglmcnkaa", sum := "a38def1f603d56501ffd535a7beba771610694a4ae8de7dcf882e962236e83e7", func := "loop.example/g00868/laws.FnExactIsCanon", spec := "fnExactIsCanon", recurses := true, apart := false, narrowed := true }
def FnExactIsCanonUptoSaid : Prop := fnExactIsCanonUptoRow.holds Try.pinned (OpenSpec.upto fnExactIsCanonSpec)

/-- 'laws.FnExactOutcomeOf', WHERE WHAT IT READS IS OF BULK AT MOST 1048576: true; the input reads as it did. -/
def fnExactOutcomeOfUptoRow : OpenClaim := { program := "ytihfnjmglmcnkaa", sum := "a38def1f603d56501ffd535a7beba771610694a4ae8de7dcf882e962236e83e7", func := "loop.example/g00868/laws.FnExactOutcomeOf", spec := "fnExactOutcomeOf", recurses := true, apart := false, narrowed := true }
def FnExactOutcomeOfUptoSaid : Prop := fnExactOutcomeOfUptoRow.holds Try.pinned (OpenSpec.upto fnExactOutcomeOfSpec)

end Rows
end Go.Proofs.Ytihfnjmglmcnkaa
