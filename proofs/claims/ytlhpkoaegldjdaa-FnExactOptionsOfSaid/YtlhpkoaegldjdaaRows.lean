/-
  No cell of these rows narrows 'for every input' (looked for: loops, veiled, ifaces, maps, wideKeys, modest, calm, conditions, laid).
  DERIVED. THE GIVEN ROWS OF THIS SEAT. 12 by the template 'for every input the law returns true; each argument reads behind the call as it read before'; 0 by the template 'total and deterministic' (their statements: YtlhpkoaegldjdaaTotals.lean).
  GIVEN WITH THE SEED: the statements are not yours to turn. If you find one false, say at which input.
  Laid BY PROGRAM, IN A SANDBOX (cutbox-rows.mjs): the forced cells as the released guide's own fill.sh prints them over the translation 22015433671025e6… (all of the seat's roots in one cut). By AI agents, Wed Nov 11 2026. No macro, syntax, notation, axiom, sorry.
-/
import Derived.Test.YtlhpkoaegldjdaaChecked
import GoSem.Claim
import GoSem.ClaimJoined
import GoSem.ClaimMapViews
import Derived.JoinedTies
import Derived.KernelRfl
namespace Go.Proofs.Ytlhpkoaegldjdaa
/- THE CELL 'sum', in the pinned program and in every row, IS THE sha256 OF THE DUMP (.gsa) THAT YtlhpkoaegldjdaaProg.lean LOADS. Nothing in Lean hashes anything: it is a label: what it is worth is what the hold of that sum in a sandbox is worth. -/
noncomputable def Try.pinned : Pinned := { name := "ytlhpkoaegldjdaa", sum := "22015433671025e64d891f4c669a84009a21208ac5bd010aea3300870c81637c", checked := Try.checked }
namespace Rows
def none {H : Type} : Left H := { results := [], args := [] }

/-- 'laws.FnExactMakeForm': WHATEVER THE INPUT: true; the input reads as it did. -/
def fnExactMakeFormSpec : ChangeSpec := { name := "fnExactMakeForm", fn := fun _ => fun
  | [d1, d2] => { results := [.lit (.bool true)], args := [d1, d2] }
  | _ => none }
def fnExactMakeFormRow : OpenClaim := { program := "ytlhpkoaegldjdaa", sum := "22015433671025e64d891f4c669a84009a21208ac5bd010aea3300870c81637c", func := "loop.example/g00868/laws.FnExactMakeForm", spec := "fnExactMakeForm", unfollowed := true, recurses := true, apart := false }
def FnExactMakeFormSaid : Prop := fnExactMakeFormRow.holds Try.pinned (OpenSpec.ofChange fnExactMakeFormSpec)

/-- ITS FALSE NEIGHBOUR: 'it returns false'. Refute it at one input. -/
def fnExactMakeFormWrong : ChangeSpec := { name := "fnExactMakeForm", fn := fun _ => fun
  | [d1, d2] => { results := [.lit (.bool false)], args := [d1, d2] }
  | _ => none }
def FnExactMakeFormWrongFalsely : Prop := fnExactMakeFormRow.holds Try.pinned (OpenSpec.ofChange fnExactMakeFormWrong)

/-- 'laws.FnExactOptionsOf': WHATEVER THE INPUT: true; the input reads as it did. -/
def fnExactOptionsOfSpec : ChangeSpec := { name := "fnExactOptionsOf", fn := fun _ => fun
  | [d] => { results := [.lit (.bool true)], args := [d] }
  | _ => none }
def fnExactOptionsOfRow : OpenClaim := { program := "ytlhpkoaegldjdaa", sum := "22015433671025e64d891f4c669a84009a21208ac5bd010aea3300870c81637c", func := "loop.example/g00868/laws.FnExactOptionsOf", spec := "fnExactOptionsOf", recurses := true, apart := false }
def FnExactOptionsOfSaid : Prop := fnExactOptionsOfRow.holds Try.pinned (OpenSpec.ofChange fnExactOptionsOfSpec)

/-- ITS FALSE NEIGHBOUR: 'it returns false'. Refute it at one input. -/
def fnExactOptionsOfWrong : ChangeSpec := { name := "fnExactOptionsOf", fn := fun _ => fun
  | [d] => { results := [.lit (.bool false)], args := [d] }
  | _ => none }
def FnExactOptionsOfWrongFalsely : Prop := fnExactOptionsOfRow.holds Try.pinned (OpenSpec.ofChange fnExactOptionsOfWrong)

/-- 'laws.FnExactLessForm': WHATEVER THE INPUT: true; the input reads as it did. -/
def fnExactLessFormSpec : ChangeSpec := { name := "fnExactLessForm", fn := fun _ => fun
  | [d1, d2] => { results := [.lit (.bool true)], args := [d1, d2] }
  | _ => none }
def fnExactLessFormRow : OpenClaim := { program := "ytlhpkoaegldjdaa", sum := "22015433671025e64d891f4c669a84009a21208ac5bd010aea3300870c81637c", func := "loop.example/g00868/laws.FnExactLessForm", spec := "fnExactLessForm", unfollowed := true, recurses := true, apart := false }
def FnExactLessFormSaid : Prop := fnExactLessFormRow.holds Try.pinned (OpenSpec.ofChange fnExactLessFormSpec)

/-- ITS FALSE NEIGHBOUR: 'it returns false'. Refute it at one input. -/
def fnExactLessFormWrong : ChangeSpec := { name := "fnExactLessForm", fn := fun _ => fun
  | [d1, d2] => { results := [.lit (.bool false)], args := [d1, d2] }
  | _ => none }
def FnExactLessFormWrongFalsely : Prop := fnExactLessFormRow.holds Try.pinned (OpenSpec.ofChange fnExactLessFormWrong)

/-- 'laws.FnExactPartAt': WHATEVER THE INPUT: true; the input reads as it did. -/
def fnExactPartAtSpec : ChangeSpec := { name := "fnExactPartAt", fn := fun _ => fun
  | [d1, d2] => { results := [.lit (.bool true)], args := [d1, d2] }
  | _ => none }
def fnExactPartAtRow : OpenClaim := { program := "ytlhpkoaegldjdaa", sum := "22015433671025e64d891f4c669a84009a21208ac5bd010aea3300870c81637c", func := "loop.example/g00868/laws.FnExactPartAt", spec := "fnExactPartAt", recurses := true, apart := false }
def FnExactPartAtSaid : Prop := fnExactPartAtRow.holds Try.pinned (OpenSpec.ofChange fnExactPartAtSpec)

/-- ITS FALSE NEIGHBOUR: 'it returns false'. Refute it at one input. -/
def fnExactPartAtWrong : ChangeSpec := { name := "fnExactPartAt", fn := fun _ => fun
  | [d1, d2] => { results := [.lit (.bool false)], args := [d1, d2] }
  | _ => none }
def FnExactPartAtWrongFalsely : Prop := fnExactPartAtRow.holds Try.pinned (OpenSpec.ofChange fnExactPartAtWrong)

/-- 'laws.FnExactReadForm': WHATEVER THE INPUT: true; the input reads as it did. -/
def fnExactReadFormSpec : ChangeSpec := { name := "fnExactReadForm", fn := fun _ => fun
  | [d] => { results := [.lit (.bool true)], args := [d] }
  | _ => none }
def fnExactReadFormRow : OpenClaim := { program := "ytlhpkoaegldjdaa", sum := "22015433671025e64d891f4c669a84009a21208ac5bd010aea3300870c81637c", func := "loop.example/g00868/laws.FnExactReadForm", spec := "fnExactReadForm", inPlace := ["internal/abi.NoEscape"], unfollowed := true, recurses := true, apart := false }
def FnExactReadFormSaid : Prop := fnExactReadFormRow.holds Try.pinned (OpenSpec.ofChange fnExactReadFormSpec)

/-- ITS FALSE NEIGHBOUR: 'it returns false'. Refute it at one input. -/
def fnExactReadFormWrong : ChangeSpec := { name := "fnExactReadForm", fn := fun _ => fun
  | [d] => { results := [.lit (.bool false)], args := [d] }
  | _ => none }
def FnExactReadFormWrongFalsely : Prop := fnExactReadFormRow.holds Try.pinned (OpenSpec.ofChange fnExactReadFormWrong)

/-- 'laws.FnExactAtLeast': WHATEVER THE INPUT: true; the input reads as it did. -/
def fnExactAtLeastSpec : ChangeSpec := { name := "fnExactAtLeast", fn := fun _ => fun
  | [d1, d2] => { results := [.lit (.bool true)], args := [d1, d2] }
  | _ => none }
def fnExactAtLeastRow : OpenClaim := { program := "ytlhpkoaegldjdaa", sum := "22015433671025e64d891f4c669a84009a21208ac5bd010aea3300870c81637c", func := "loop.example/g00868/laws.FnExactAtLeast", spec := "fnExactAtLeast", recurses := true, apart := false }
def FnExactAtLeastSaid : Prop := fnExactAtLeastRow.holds Try.pinned (OpenSpec.ofChange fnExactAtLeastSpec)

/-- ITS FALSE NEIGHBOUR: 'it returns false'. Refute it at one input. -/
def fnExactAtLeastWrong : ChangeSpec := { name := "fnExactAtLeast", fn := fun _ => fun
  | [d1, d2] => { results := [.lit (.bool false)], args := [d1, d2] }
  | _ => none }
def FnExactAtLeastWrongFalsely : Prop := fnExactAtLeastRow.holds Try.pinned (OpenSpec.ofChange fnExactAtLeastWrong)

/-- 'laws.FnExactEqualForms': WHATEVER THE INPUT: true; the input reads as it did. -/
def fnExactEqualFormsSpec : ChangeSpec := { name := "fnExactEqualForms", fn := fun _ => fun
  | [d1, d2] => { results := [.lit (.bool true)], args := [d1, d2] }
  | _ => none }
def fnExactEqualFormsRow : OpenClaim := { program := "ytlhpkoaegldjdaa", sum := "22015433671025e64d891f4c669a84009a21208ac5bd010aea3300870c81637c", func := "loop.example/g00868/laws.FnExactEqualForms", spec := "fnExactEqualForms", recurses := true, apart := false }
def FnExactEqualFormsSaid : Prop := fnExactEqualFormsRow.holds Try.pinned (OpenSpec.ofChange fnExactEqualFormsSpec)

/-- ITS FALSE NEIGHBOUR: 'it returns false'. Refute it at one input. -/
def fnExactEqualFormsWrong : ChangeSpec := { name := "fnExactEqualForms", fn := fun _ => fun
  | [d1, d2] => { results := [.lit (.bool false)], args := [d1, d2] }
  | _ => none }
def FnExactEqualFormsWrongFalsely : Prop := fnExactEqualFormsRow.holds Try.pinned (OpenSpec.ofChange fnExactEqualFormsWrong)

/-- 'laws.FnExactCompareForms': WHATEVER THE INPUT: true; the input reads as it did. -/
def fnExactCompareFormsSpec : ChangeSpec := { name := "fnExactCompareForms", fn := fun _ => fun
  | [d1, d2] => { results := [.lit (.bool true)], args := [d1, d2] }
  | _ => none }
def fnExactCompareFormsRow : OpenClaim := { program := "ytlhpkoaegldjdaa", sum := "22015433671025e64d891f4c669a84009a21208ac5bd010aea3300870c81637c", func := "loop.example/g00868/laws.FnExactCompareForms", spec := "fnExactCompareForms", recurses := true, apart := false }
def FnExactCompareFormsSaid : Prop := fnExactCompareFormsRow.holds Try.pinned (OpenSpec.ofChange fnExactCompareFormsSpec)

/-- ITS FALSE NEIGHBOUR: 'it returns false'. Refute it at one input. -/
def fnExactCompareFormsWrong : ChangeSpec := { name := "fnExactCompareForms", fn := fun _ => fun
  | [d1, d2] => { results := [.lit (.bool false)], args := [d1, d2] }
  | _ => none }
def FnExactCompareFormsWrongFalsely : Prop := fnExactCompareFormsRow.holds Try.pinned (OpenSpec.ofChange fnExactCompareFormsWrong)

/-- 'laws.FnExactOutcomeOf': WHATEVER THE INPUT: true; the input reads as it did. -/
def fnExactOutcomeOfSpec : ChangeSpec := { name := "fnExactOutcomeOf", fn := fun _ => fun
  | [d] => { results := [.lit (.bool true)], args := [d] }
  | _ => none }
def fnExactOutcomeOfRow : OpenClaim := { program := "ytlhpkoaegldjdaa", sum := "22015433671025e64d891f4c669a84009a21208ac5bd010aea3300870c81637c", func := "loop.example/g00868/laws.FnExactOutcomeOf", spec := "fnExactOutcomeOf", recurses := true, apart := false }
def FnExactOutcomeOfSaid : Prop := fnExactOutcomeOfRow.holds Try.pinned (OpenSpec.ofChange fnExactOutcomeOfSpec)

/-- ITS FALSE NEIGHBOUR: 'it returns false'. Refute it at one input. -/
def fnExactOutcomeOfWrong : ChangeSpec := { name := "fnExactOutcomeOf", fn := fun _ => fun
  | [d] => { results := [.lit (.bool false)], args := [d] }
  | _ => none }
def FnExactOutcomeOfWrongFalsely : Prop := fnExactOutcomeOfRow.holds Try.pinned (OpenSpec.ofChange fnExactOutcomeOfWrong)

/-- 'laws.FnExactWinsMoving': WHATEVER THE INPUT: true; the input reads as it did. -/
def fnExactWinsMovingSpec : ChangeSpec := { name := "fnExactWinsMoving", fn := fun _ => fun
  | [d1, d2] => { results := [.lit (.bool true)], args := [d1, d2] }
  | _ => none }
def fnExactWinsMovingRow : OpenClaim := { program := "ytlhpkoaegldjdaa", sum := "22015433671025e64d891f4c669a84009a21208ac5bd010aea3300870c81637c", func := "loop.example/g00868/laws.FnExactWinsMoving", spec := "fnExactWinsMoving", recurses := true, apart := false }
def FnExactWinsMovingSaid : Prop := fnExactWinsMovingRow.holds Try.pinned (OpenSpec.ofChange fnExactWinsMovingSpec)

/-- ITS FALSE NEIGHBOUR: 'it returns false'. Refute it at one input. -/
def fnExactWinsMovingWrong : ChangeSpec := { name := "fnExactWinsMoving", fn := fun _ => fun
  | [d1, d2] => { results := [.lit (.bool false)], args := [d1, d2] }
  | _ => none }
def FnExactWinsMovingWrongFalsely : Prop := fnExactWinsMovingRow.holds Try.pinned (OpenSpec.ofChange fnExactWinsMovingWrong)

/-- 'laws.FnExactWinningMoves': WHATEVER THE INPUT: true; the input reads as it did. -/
def fnExactWinningMovesSpec : ChangeSpec := { name := "fnExactWinningMoves", fn := fun _ => fun
  | [d1, d2] => { results := [.lit (.bool true)], args := [d1, d2] }
  | _ => none }
def fnExactWinningMovesRow : OpenClaim := { program := "ytlhpkoaegldjdaa", sum := "22015433671025e64d891f4c669a84009a21208ac5bd010aea3300870c81637c", func := "loop.example/g00868/laws.FnExactWinningMoves", spec := "fnExactWinningMoves", recurses := true, apart := false }
def FnExactWinningMovesSaid : Prop := fnExactWinningMovesRow.holds Try.pinned (OpenSpec.ofChange fnExactWinningMovesSpec)

/-- ITS FALSE NEIGHBOUR: 'it returns false'. Refute it at one input. -/
def fnExactWinningMovesWrong : ChangeSpec := { name := "fnExactWinningMoves", fn := fun _ => fun
  | [d1, d2] => { results := [.lit (.bool false)], args := [d1, d2] }
  | _ => none }
def FnExactWinningMovesWrongFalsely : Prop := fnExactWinningMovesRow.holds Try.pinned (OpenSpec.ofChange fnExactWinningMovesWrong)

/-- 'laws.FnExactGreatestOf': WHATEVER THE INPUT: true; the input reads as it did. -/
def fnExactGreatestOfSpec : ChangeSpec := { name := "fnExactGreatestOf", fn := fun _ => fun
  | [d] => { results := [.lit (.bool true)], args := [d] }
  | _ => none }
def fnExactGreatestOfRow : OpenClaim := { program := "ytlhpkoaegldjdaa", sum := "22015433671025e64d891f4c669a84009a21208ac5bd010aea3300870c81637c", func := "loop.example/g00868/laws.FnExactGreatestOf", spec := "fnExactGreatestOf", unfollowed := true, recurses := true, apart := false }
def FnExactGreatestOfSaid : Prop := fnExactGreatestOfRow.holds Try.pinned (OpenSpec.ofChange fnExactGreatestOfSpec)

/-- ITS FALSE NEIGHBOUR: 'it returns false'. Refute it at one input. -/
def fnExactGreatestOfWrong : ChangeSpec := { name := "fnExactGreatestOf", fn := fun _ => fun
  | [d] => { results := [.lit (.bool false)], args := [d] }
  | _ => none }
def FnExactGreatestOfWrongFalsely : Prop := fnExactGreatestOfRow.holds Try.pinned (OpenSpec.ofChange fnExactGreatestOfWrong)

/- THE SECOND FORM. 'bulk': how many values and letters a reading holds, each counted each time it is reached (what is shared counts as often as it is met; a slice's spare places count too). A statement '..UptoSaid' is the law's where the arguments, and the package variables that the reading takes, are together of bulk at most 1048576: NARROWER than '..Said'. Prove '..Said' where nothing that the law and all that it calls make is longer than what came in: it says more and counts as full. Else prove '..UptoSaid'. A law counts once. -/
mutual
def uptoBulk {H : Type} : DataW H → Nat
  | .lit (.string bytes) => bytes.length + 1
  | .lit _ => 1
  | .nil => 1
  | .ptr d => uptoBulk d + 1
  | .slice elems spare => uptoBulkAll elems + uptoBulkAll spare + 1
  | .agg parts => uptoBulkAll parts + 1
  | .iface _ d => uptoBulk d + 1
  | .map entries => uptoBulkEntries entries + 1
  | .held _ => 1
def uptoBulkAll {H : Type} : List (DataW H) → Nat
  | [] => 0
  | d :: r => uptoBulk d + uptoBulkAll r
def uptoBulkEntries {H : Type} : List (Lit × DataW H) → Nat
  | [] => 0
  | x :: r => uptoBulkEntry x + uptoBulkEntries r
def uptoBulkEntry {H : Type} : Lit × DataW H → Nat
  | (.string bytes, d) => bytes.length + uptoBulk d + 1
  | (_, d) => uptoBulk d + 1
 end
def uptoSmall : (H : Type) → List (DataW H) → Bool := fun _ ds => decide (uptoBulkAll ds ≤ 1048576)
def OpenSpec.upto (s : _root_.Go.ChangeSpec) : _root_.Go.OpenSpec := { _root_.Go.OpenSpec.ofChange s with cond := some uptoSmall }

/-- 'laws.FnExactMakeForm', WHERE WHAT IT READS IS OF BULK AT MOST 1048576: true; the input reads as it did. -/
def fnExactMakeFormUptoRow : OpenClaim := { program := "ytlhpkoaegldjdaa", sum := "22015433671025e64d891f4c669a84009a21208ac5bd010aea3300870c81637c", func := "loop.example/g00868/laws.FnExactMakeForm", spec := "fnExactMakeForm", unfollowed := true, recurses := true, apart := false, narrowed := true }
def FnExactMakeFormUptoSaid : Prop := fnExactMakeFormUptoRow.holds Try.pinned (OpenSpec.upto fnExactMakeFormSpec)

/-- 'laws.FnExactOptionsOf', WHERE WHAT IT READS IS OF BULK AT MOST 1048576: true; the input reads as it did. -/
def fnExactOptionsOfUptoRow : OpenClaim := { program := "ytlhpkoaegldjdaa", sum := "22015433671025e64d891f4c669a84009a21208ac5bd010aea3300870c81637c", func := "loop.example/g00868/laws.FnExactOptionsOf", spec := "fnExactOptionsOf", recurses := true, apart := false, narrowed := true }
def FnExactOptionsOfUptoSaid : Prop := fnExactOptionsOfUptoRow.holds Try.pinned (OpenSpec.upto fnExactOptionsOfSpec)

/-- 'laws.FnExactLessForm', WHERE WHAT IT READS IS OF BULK AT MOST 1048576: true; the input reads as it did. -/
def fnExactLessFormUptoRow : OpenClaim := { program := "ytlhpkoaegldjdaa", sum := "22015433671025e64d891f4c669a84009a21208ac5bd010aea3300870c81637c", func := "loop.example/g00868/laws.FnExactLessForm", spec := "fnExactLessForm", unfollowed := true, recurses := true, apart := false, narrowed := true }
def FnExactLessFormUptoSaid : Prop := fnExactLessFormUptoRow.holds Try.pinned (OpenSpec.upto fnExactLessFormSpec)

/-- 'laws.FnExactPartAt', WHERE WHAT IT READS IS OF BULK AT MOST 1048576: true; the input reads as it did. -/
def fnExactPartAtUptoRow : OpenClaim := { program := "ytlhpkoaegldjdaa", sum := "22015433671025e64d891f4c669a84009a21208ac5bd010aea3300870c81637c", func := "loop.example/g00868/laws.FnExactPartAt", spec := "fnExactPartAt", recurses := true, apart := false, narrowed := true }
def FnExactPartAtUptoSaid : Prop := fnExactPartAtUptoRow.holds Try.pinned (OpenSpec.upto fnExactPartAtSpec)

/-- 'laws.FnExactReadForm', WHERE WHAT IT READS IS OF BULK AT MOST 1048576: true; the input reads as it did. -/
def fnExactReadFormUptoRow : OpenClaim := { program := "ytlhpkoaegldjdaa", sum := "22015433671025e64d891f4c669a84009a21208ac5bd010aea3300870c81637c", func := "loop.example/g00868/laws.FnExactReadForm", spec := "fnExactReadForm", inPlace := ["internal/abi.NoEscape"], unfollowed := true, recurses := true, apart := false, narrowed := true }
def FnExactReadFormUptoSaid : Prop := fnExactReadFormUptoRow.holds Try.pinned (OpenSpec.upto fnExactReadFormSpec)

/-- 'laws.FnExactAtLeast', WHERE WHAT IT READS IS OF BULK AT MOST 1048576: true; the input reads as it did. -/
def fnExactAtLeastUptoRow : OpenClaim := { program := "ytlhpkoaegldjdaa", sum := "22015433671025e64d891f4c669a84009a21208ac5bd010aea3300870c81637c", func := "loop.example/g00868/laws.FnExactAtLeast", spec := "fnExactAtLeast", recurses := true, apart := false, narrowed := true }
def FnExactAtLeastUptoSaid : Prop := fnExactAtLeastUptoRow.holds Try.pinned (OpenSpec.upto fnExactAtLeastSpec)

/-- 'laws.FnExactEqualForms', WHERE WHAT IT READS IS OF BULK AT MOST 1048576: true; the input reads as it did. -/
def fnExactEqualFormsUptoRow : OpenClaim := { program := "ytlhpkoaegldjdaa", sum := "22015433671025e64d891f4c669a84009a21208ac5bd010aea3300870c81637c", func := "loop.example/g00868/laws.FnExactEqualForms", spec := "fnExactEqualForms", recurses := true, apart := false, narrowed := true }
def FnExactEqualFormsUptoSaid : Prop := fnExactEqualFormsUptoRow.holds Try.pinned (OpenSpec.upto fnExactEqualFormsSpec)

/-- 'laws.FnExactCompareForms', WHERE WHAT IT READS IS OF BULK AT MOST 1048576: true; the input reads as it did. -/
def fnExactCompareFormsUptoRow : OpenClaim := { program := "ytlhpkoaegldjdaa", sum := "22015433671025e64d891f4c669a84009a21208ac5bd010aea3300870c81637c", func := "loop.example/g00868/laws.FnExactCompareForms", spec := "fnExactCompareForms", recurses := true, apart := false, narrowed := true }
def FnExactCompareFormsUptoSaid : Prop := fnExactCompareFormsUptoRow.holds Try.pinned (OpenSpec.upto fnExactCompareFormsSpec)

/-- 'laws.FnExactOutcomeOf', WHERE WHAT IT READS IS OF BULK AT MOST 1048576: true; the input reads as it did. -/
def fnExactOutcomeOfUptoRow : OpenClaim := { program := "ytlhpkoaegldjdaa", sum := "22015433671025e64d891f4c669a84009a21208ac5bd010aea3300870c81637c", func := "loop.example/g00868/laws.FnExactOutcomeOf", spec := "fnExactOutcomeOf", recurses := true, apart := false, narrowed := true }
def FnExactOutcomeOfUptoSaid : Prop := fnExactOutcomeOfUptoRow.holds Try.pinned (OpenSpec.upto fnExactOutcomeOfSpec)

/-- 'laws.FnExactWinsMoving', WHERE WHAT IT READS IS OF BULK AT MOST 1048576: true; the input reads as it did. -/
def fnExactWinsMovingUptoRow : OpenClaim := { program := "ytlhpkoaegldjdaa", sum := "22015433671025e64d891f4c669a84009a21208ac5bd010aea3300870c81637c", func := "loop.example/g00868/laws.FnExactWinsMoving", spec := "fnExactWinsMoving", recurses := true, apart := false, narrowed := true }
def FnExactWinsMovingUptoSaid : Prop := fnExactWinsMovingUptoRow.holds Try.pinned (OpenSpec.upto fnExactWinsMovingSpec)

/-- 'laws.FnExactWinningMoves', WHERE WHAT IT READS IS OF BULK AT MOST 1048576: true; the input reads as it did. -/
def fnExactWinningMovesUptoRow : OpenClaim := { program := "ytlhpkoaegldjdaa", sum := "22015433671025e64d891f4c669a84009a21208ac5bd010aea3300870c81637c", func := "loop.example/g00868/laws.FnExactWinningMoves", spec := "fnExactWinningMoves", recurses := true, apart := false, narrowed := true }
def FnExactWinningMovesUptoSaid : Prop := fnExactWinningMovesUptoRow.holds Try.pinned (OpenSpec.upto fnExactWinningMovesSpec)

/-- 'laws.FnExactGreatestOf', WHERE WHAT IT READS IS OF BULK AT MOST 1048576: true; the input reads as it did. -/
def fnExactGreatestOfUptoRow : OpenClaim := { program := "ytlhpkoaegldjdaa", sum := "22015433671025e64d891f4c669a84009a21208ac5bd010aea3300870c81637c", func := "loop.example/g00868/laws.FnExactGreatestOf", spec := "fnExactGreatestOf", unfollowed := true, recurses := true, apart := false, narrowed := true }
def FnExactGreatestOfUptoSaid : Prop := fnExactGreatestOfUptoRow.holds Try.pinned (OpenSpec.upto fnExactGreatestOfSpec)

end Rows
end Go.Proofs.Ytlhpkoaegldjdaa
