/-
  No cell of these rows narrows 'for every input' (looked for: loops, veiled, ifaces, maps, wideKeys, modest, calm, conditions, laid).
  DERIVED. THE GIVEN ROWS OF THIS SEAT. 9 by the template 'for every input the law returns true; each argument reads behind the call as it read before'; 0 by the template 'total and deterministic' (their statements: YtjllpcnbahdmhaaTotals.lean).
  GIVEN WITH THE SEED: the statements are not yours to turn. If you find one false, say at which input.
  Laid BY PROGRAM, IN A SANDBOX (cutbox-rows.mjs): the forced cells as the released guide's own fill.sh prints them over the translation 59b4a8db3c09841f… (all of the seat's roots in one cut). By AI agents, Wed Nov 11 2026. No macro, syntax, notation, axiom, sorry.
-/
import Derived.Test.YtjllpcnbahdmhaaChecked
import GoSem.Claim
import GoSem.ClaimJoined
import GoSem.ClaimMapViews
import Derived.JoinedTies
import Derived.KernelRfl
namespace Go.Proofs.Ytjllpcnbahdmhaa
/- THE CELL 'sum', in the pinned program and in every row, IS THE sha256 OF THE DUMP (.gsa) THAT YtjllpcnbahdmhaaProg.lean LOADS. Nothing in Lean hashes anything: it is a label: what it is worth is what the hold of that sum in a sandbox is worth. -/
noncomputable def Try.pinned : Pinned := { name := "ytjllpcnbahdmhaa", sum := "59b4a8db3c09841f7cf7f75d6781f53a9f5bc453449f34b4a0d2e5cbd66a32ee", checked := Try.checked }
namespace Rows
def none {H : Type} : Left H := { results := [], args := [] }

/-- 'laws.FnExactSumForms': WHATEVER THE INPUT: true; the input reads as it did. -/
def fnExactSumFormsSpec : ChangeSpec := { name := "fnExactSumForms", fn := fun _ => fun
  | [d1, d2] => { results := [.lit (.bool true)], args := [d1, d2] }
  | _ => none }
def fnExactSumFormsRow : OpenClaim := { program := "ytjllpcnbahdmhaa", sum := "59b4a8db3c09841f7cf7f75d6781f53a9f5bc453449f34b4a0d2e5cbd66a32ee", func := "loop.example/g00868/laws.FnExactSumForms", spec := "fnExactSumForms", unfollowed := true, recurses := true, apart := false }
def FnExactSumFormsSaid : Prop := fnExactSumFormsRow.holds Try.pinned (OpenSpec.ofChange fnExactSumFormsSpec)

/-- ITS FALSE NEIGHBOUR: 'it returns false'. Refute it at one input. -/
def fnExactSumFormsWrong : ChangeSpec := { name := "fnExactSumForms", fn := fun _ => fun
  | [d1, d2] => { results := [.lit (.bool false)], args := [d1, d2] }
  | _ => none }
def FnExactSumFormsWrongFalsely : Prop := fnExactSumFormsRow.holds Try.pinned (OpenSpec.ofChange fnExactSumFormsWrong)

/-- 'laws.FnExactOrdinalSum': WHATEVER THE INPUT: true; the input reads as it did. -/
def fnExactOrdinalSumSpec : ChangeSpec := { name := "fnExactOrdinalSum", fn := fun _ => fun
  | [d1, d2] => { results := [.lit (.bool true)], args := [d1, d2] }
  | _ => none }
def fnExactOrdinalSumRow : OpenClaim := { program := "ytjllpcnbahdmhaa", sum := "59b4a8db3c09841f7cf7f75d6781f53a9f5bc453449f34b4a0d2e5cbd66a32ee", func := "loop.example/g00868/laws.FnExactOrdinalSum", spec := "fnExactOrdinalSum", unfollowed := true, recurses := true, apart := false }
def FnExactOrdinalSumSaid : Prop := fnExactOrdinalSumRow.holds Try.pinned (OpenSpec.ofChange fnExactOrdinalSumSpec)

/-- ITS FALSE NEIGHBOUR: 'it returns false'. Refute it at one input. -/
def fnExactOrdinalSumWrong : ChangeSpec := { name := "fnExactOrdinalSum", fn := fun _ => fun
  | [d1, d2] => { results := [.lit (.bool false)], args := [d1, d2] }
  | _ => none }
def FnExactOrdinalSumWrongFalsely : Prop := fnExactOrdinalSumRow.holds Try.pinned (OpenSpec.ofChange fnExactOrdinalSumWrong)

/-- 'laws.FnExactWinningMoves': WHATEVER THE INPUT: true; the input reads as it did. -/
def fnExactWinningMovesSpec : ChangeSpec := { name := "fnExactWinningMoves", fn := fun _ => fun
  | [d1, d2] => { results := [.lit (.bool true)], args := [d1, d2] }
  | _ => none }
def fnExactWinningMovesRow : OpenClaim := { program := "ytjllpcnbahdmhaa", sum := "59b4a8db3c09841f7cf7f75d6781f53a9f5bc453449f34b4a0d2e5cbd66a32ee", func := "loop.example/g00868/laws.FnExactWinningMoves", spec := "fnExactWinningMoves", recurses := true, apart := false }
def FnExactWinningMovesSaid : Prop := fnExactWinningMovesRow.holds Try.pinned (OpenSpec.ofChange fnExactWinningMovesSpec)

/-- ITS FALSE NEIGHBOUR: 'it returns false'. Refute it at one input. -/
def fnExactWinningMovesWrong : ChangeSpec := { name := "fnExactWinningMoves", fn := fun _ => fun
  | [d1, d2] => { results := [.lit (.bool false)], args := [d1, d2] }
  | _ => none }
def FnExactWinningMovesWrongFalsely : Prop := fnExactWinningMovesRow.holds Try.pinned (OpenSpec.ofChange fnExactWinningMovesWrong)

/-- 'laws.FnExactMakeForm': WHATEVER THE INPUT: true; the input reads as it did. -/
def fnExactMakeFormSpec : ChangeSpec := { name := "fnExactMakeForm", fn := fun _ => fun
  | [d1, d2] => { results := [.lit (.bool true)], args := [d1, d2] }
  | _ => none }
def fnExactMakeFormRow : OpenClaim := { program := "ytjllpcnbahdmhaa", sum := "59b4a8db3c09841f7cf7f75d6781f53a9f5bc453449f34b4a0d2e5cbd66a32ee", func := "loop.example/g00868/laws.FnExactMakeForm", spec := "fnExactMakeForm", unfollowed := true, recurses := true, apart := false }
def FnExactMakeFormSaid : Prop := fnExactMakeFormRow.holds Try.pinned (OpenSpec.ofChange fnExactMakeFormSpec)

/-- ITS FALSE NEIGHBOUR: 'it returns false'. Refute it at one input. -/
def fnExactMakeFormWrong : ChangeSpec := { name := "fnExactMakeForm", fn := fun _ => fun
  | [d1, d2] => { results := [.lit (.bool false)], args := [d1, d2] }
  | _ => none }
def FnExactMakeFormWrongFalsely : Prop := fnExactMakeFormRow.holds Try.pinned (OpenSpec.ofChange fnExactMakeFormWrong)

/-- 'laws.FnExactLessForm': WHATEVER THE INPUT: true; the input reads as it did. -/
def fnExactLessFormSpec : ChangeSpec := { name := "fnExactLessForm", fn := fun _ => fun
  | [d1, d2] => { results := [.lit (.bool true)], args := [d1, d2] }
  | _ => none }
def fnExactLessFormRow : OpenClaim := { program := "ytjllpcnbahdmhaa", sum := "59b4a8db3c09841f7cf7f75d6781f53a9f5bc453449f34b4a0d2e5cbd66a32ee", func := "loop.example/g00868/laws.FnExactLessForm", spec := "fnExactLessForm", unfollowed := true, recurses := true, apart := false }
def FnExactLessFormSaid : Prop := fnExactLessFormRow.holds Try.pinned (OpenSpec.ofChange fnExactLessFormSpec)

/-- ITS FALSE NEIGHBOUR: 'it returns false'. Refute it at one input. -/
def fnExactLessFormWrong : ChangeSpec := { name := "fnExactLessForm", fn := fun _ => fun
  | [d1, d2] => { results := [.lit (.bool false)], args := [d1, d2] }
  | _ => none }
def FnExactLessFormWrongFalsely : Prop := fnExactLessFormRow.holds Try.pinned (OpenSpec.ofChange fnExactLessFormWrong)

/-- 'laws.FnExactGreatestOf': WHATEVER THE INPUT: true; the input reads as it did. -/
def fnExactGreatestOfSpec : ChangeSpec := { name := "fnExactGreatestOf", fn := fun _ => fun
  | [d] => { results := [.lit (.bool true)], args := [d] }
  | _ => none }
def fnExactGreatestOfRow : OpenClaim := { program := "ytjllpcnbahdmhaa", sum := "59b4a8db3c09841f7cf7f75d6781f53a9f5bc453449f34b4a0d2e5cbd66a32ee", func := "loop.example/g00868/laws.FnExactGreatestOf", spec := "fnExactGreatestOf", unfollowed := true, recurses := true, apart := false }
def FnExactGreatestOfSaid : Prop := fnExactGreatestOfRow.holds Try.pinned (OpenSpec.ofChange fnExactGreatestOfSpec)

/-- ITS FALSE NEIGHBOUR: 'it returns false'. Refute it at one input. -/
def fnExactGreatestOfWrong : ChangeSpec := { name := "fnExactGreatestOf", fn := fun _ => fun
  | [d] => { results := [.lit (.bool false)], args := [d] }
  | _ => none }
def FnExactGreatestOfWrongFalsely : Prop := fnExactGreatestOfRow.holds Try.pinned (OpenSpec.ofChange fnExactGreatestOfWrong)

/-- 'laws.FnExactDominatedIn': WHATEVER THE INPUT: true; the input reads as it did. -/
def fnExactDominatedInSpec : ChangeSpec := { name := "fnExactDominatedIn", fn := fun _ => fun
  | [d] => { results := [.lit (.bool true)], args := [d] }
  | _ => none }
def fnExactDominatedInRow : OpenClaim := { program := "ytjllpcnbahdmhaa", sum := "59b4a8db3c09841f7cf7f75d6781f53a9f5bc453449f34b4a0d2e5cbd66a32ee", func := "loop.example/g00868/laws.FnExactDominatedIn", spec := "fnExactDominatedIn", recurses := true, apart := false }
def FnExactDominatedInSaid : Prop := fnExactDominatedInRow.holds Try.pinned (OpenSpec.ofChange fnExactDominatedInSpec)

/-- ITS FALSE NEIGHBOUR: 'it returns false'. Refute it at one input. -/
def fnExactDominatedInWrong : ChangeSpec := { name := "fnExactDominatedIn", fn := fun _ => fun
  | [d] => { results := [.lit (.bool false)], args := [d] }
  | _ => none }
def FnExactDominatedInWrongFalsely : Prop := fnExactDominatedInRow.holds Try.pinned (OpenSpec.ofChange fnExactDominatedInWrong)

/-- 'laws.FnExactReversibleIn': WHATEVER THE INPUT: true; the input reads as it did. -/
def fnExactReversibleInSpec : ChangeSpec := { name := "fnExactReversibleIn", fn := fun _ => fun
  | [d] => { results := [.lit (.bool true)], args := [d] }
  | _ => none }
def fnExactReversibleInRow : OpenClaim := { program := "ytjllpcnbahdmhaa", sum := "59b4a8db3c09841f7cf7f75d6781f53a9f5bc453449f34b4a0d2e5cbd66a32ee", func := "loop.example/g00868/laws.FnExactReversibleIn", spec := "fnExactReversibleIn", recurses := true, apart := false }
def FnExactReversibleInSaid : Prop := fnExactReversibleInRow.holds Try.pinned (OpenSpec.ofChange fnExactReversibleInSpec)

/-- ITS FALSE NEIGHBOUR: 'it returns false'. Refute it at one input. -/
def fnExactReversibleInWrong : ChangeSpec := { name := "fnExactReversibleIn", fn := fun _ => fun
  | [d] => { results := [.lit (.bool false)], args := [d] }
  | _ => none }
def FnExactReversibleInWrongFalsely : Prop := fnExactReversibleInRow.holds Try.pinned (OpenSpec.ofChange fnExactReversibleInWrong)

/-- 'laws.FnExactIsCanon': WHATEVER THE INPUT: true; the input reads as it did. -/
def fnExactIsCanonSpec : ChangeSpec := { name := "fnExactIsCanon", fn := fun _ => fun
  | [d] => { results := [.lit (.bool true)], args := [d] }
  | _ => none }
def fnExactIsCanonRow : OpenClaim := { program := "ytjllpcnbahdmhaa", sum := "59b4a8db3c09841f7cf7f75d6781f53a9f5bc453449f34b4a0d2e5cbd66a32ee", func := "loop.example/g00868/laws.FnExactIsCanon", spec := "fnExactIsCanon", recurses := true, apart := false }
def FnExactIsCanonSaid : Prop := fnExactIsCanonRow.holds Try.pinned (OpenSpec.ofChange fnExactIsCanonSpec)

/-- ITS FALSE NEIGHBOUR: 'it returns false'. Refute it at one input. -/
def fnExactIsCanonWrong : ChangeSpec := { name := "fnExactIsCanon", fn := fun _ => fun
  | [d] => { results := [.lit (.bool false)], args := [d] }
  | _ => none }
def FnExactIsCanonWrongFalsely : Prop := fnExactIsCanonRow.holds Try.pinned (OpenSpec.ofChange fnExactIsCanonWrong)

/- THE SECOND FORM. 'bulk': how many values and letters a reading holds, each counted each time it is reached (what is shared counts as often as it is met; a slice's spare places count too). A statement '..UptoSaid' is the law's where the arguments, and the package variables that the reading takes, are together of bulk at most 1048576: NARROWER than '..Said'. Prove '..Said' where nothing that the law and all that it calls make is longer than what came in: it says more and counts as full. Else prove '..UptoSaid'. A law counts once. -/
mutual
def uptoBulk {H : Type} : DataW H → Nat
  | .lit (.string bytes) => bytes.length + 1
  | .lit _ => 1
  | .nil => 1
  | .ptr d => uptoBulk d + 1
  | .slice elems spare => uptoBulkAll elems + uptoBulkAll spare + 1
  | .agg parts => uptoBulkAll parts + 1
  | .iface _ d => uptoBulk d + 1
  | .map entries => uptoBulkEntries entries + 1
  | .held _ => 1
def uptoBulkAll {H : Type} : List (DataW H) → Nat
  | [] => 0
  | d :: r => uptoBulk d + uptoBulkAll r
def uptoBulkEntries {H : Type} : List (Lit × DataW H) → Nat
  | [] => 0
  | x :: r => uptoBulkEntry x + uptoBulkEntries r
def uptoBulkEntry {H : Type} : Lit × DataW H → Nat
  | (.string bytes, d) => bytes.length + uptoBulk d + 1
  | (_, d) => uptoBulk d + 1
 end
def uptoSmall : (H : Type) → List (DataW H) → Bool := fun _ ds => decide (uptoBulkAll ds ≤ 1048576)
def OpenSpec.upto (s : _root_.Go.ChangeSpec) : _root_.Go.OpenSpec := { _root_.Go.OpenSpec.ofChange s with cond := some uptoSmall }

/-- 'laws.FnExactSumForms', WHERE WHAT IT READS IS OF BULK AT MOST 1048576: true; the input reads as it did. -/
def fnExactSumFormsUptoRow : OpenClaim := { program := "ytjllpcnbahdmhaa", sum := "59b4a8db3c09841f7cf7f75d6781f53a9f5bc453449f34b4a0d2e5cbd66a32ee", func := "loop.example/g00868/laws.FnExactSumForms", spec := "fnExactSumForms", unfollowed := true, recurses := true, apart := false, narrowed := true }
def FnExactSumFormsUptoSaid : Prop := fnExactSumFormsUptoRow.holds Try.pinned (OpenSpec.upto fnExactSumFormsSpec)

/-- 'laws.FnExactOrdinalSum', WHERE WHAT IT READS IS OF BULK AT MOST 1048576: true; the input reads as it did. -/
def fnExactOrdinalSumUptoRow : OpenClaim := { program := "ytjllpcnbahdmhaa", sum := "59b4a8db3c09841f7cf7f75d6781f53a9f5bc453449f34b4a0d2e5cbd66a32ee", func := "loop.example/g00868/laws.FnExactOrdinalSum", spec := "fnExactOrdinalSum", unfollowed := true, recurses := true, apart := false, narrowed := true }
def FnExactOrdinalSumUptoSaid : Prop := fnExactOrdinalSumUptoRow.holds Try.pinned (OpenSpec.upto fnExactOrdinalSumSpec)

/-- 'laws.FnExactWinningMoves', WHERE WHAT IT READS IS OF BULK AT MOST 1048576: true; the input reads as it did. -/
def fnExactWinningMovesUptoRow : OpenClaim := { program := "ytjllpcnbahdmhaa", sum := "59b4a8db3c09841f7cf7f75d6781f53a9f5bc453449f34b4a0d2e5cbd66a32ee", func := "loop.example/g00868/laws.FnExactWinningMoves", spec := "fnExactWinningMoves", recurses := true, apart := false, narrowed := true }
def FnExactWinningMovesUptoSaid : Prop := fnExactWinningMovesUptoRow.holds Try.pinned (OpenSpec.upto fnExactWinningMovesSpec)

/-- 'laws.FnExactMakeForm', WHERE WHAT IT READS IS OF BULK AT MOST 1048576: true; the input reads as it did. -/
def fnExactMakeFormUptoRow : OpenClaim := { program := "ytjllpcnbahdmhaa", sum := "59b4a8db3c09841f7cf7f75d6781f53a9f5bc453449f34b4a0d2e5cbd66a32ee", func := "loop.example/g00868/laws.FnExactMakeForm", spec := "fnExactMakeForm", unfollowed := true, recurses := true, apart := false, narrowed := true }
def FnExactMakeFormUptoSaid : Prop := fnExactMakeFormUptoRow.holds Try.pinned (OpenSpec.upto fnExactMakeFormSpec)

/-- 'laws.FnExactLessForm', WHERE WHAT IT READS IS OF BULK AT MOST 1048576: true; the input reads as it did. -/
def fnExactLessFormUptoRow : OpenClaim := { program := "ytjllpcnbahdmhaa", sum := "59b4a8db3c09841f7cf7f75d6781f53a9f5bc453449f34b4a0d2e5cbd66a32ee", func := "loop.example/g00868/laws.FnExactLessForm", spec := "fnExactLessForm", unfollowed := true, recurses := true, apart := false, narrowed := true }
def FnExactLessFormUptoSaid : Prop := fnExactLessFormUptoRow.holds Try.pinned (OpenSpec.upto fnExactLessFormSpec)

/-- 'laws.FnExactGreatestOf', WHERE WHAT IT READS IS OF BULK AT MOST 1048576: true; the input reads as it did. -/
def fnExactGreatestOfUptoRow : OpenClaim := { program := "ytjllpcnbahdmhaa", sum := "59b4a8db3c09841f7cf7f75d6781f53a9f5bc453449f34b4a0d2e5cbd66a32ee", func := "loop.example/g00868/laws.FnExactGreatestOf", spec := "fnExactGreatestOf", unfollowed := true, recurses := true, apart := false, narrowed := true }
def FnExactGreatestOfUptoSaid : Prop := fnExactGreatestOfUptoRow.holds Try.pinned (OpenSpec.upto fnExactGreatestOfSpec)

/-- 'laws.FnExactDominatedIn', WHERE WHAT IT READS IS OF BULK AT MOST 1048576: true; the input reads as it did. -/
def fnExactDominatedInUptoRow : OpenClaim := { program := "ytjllpcnbahdmhaa", sum := "59b4a8db3c09841f7cf7f75d6781f53a9f5bc453449f34b4a0d2e5cbd66a32ee", func := "loop.example/g00868/laws.FnExactDominatedIn", spec := "fnExactDominatedIn", recurses := true, apart := false, narrowed := true }
def FnExactDominatedInUptoSaid : Prop := fnExactDominatedInUptoRow.holds Try.pinned (OpenSpec.upto fnExactDominatedInSpec)

/-- 'laws.FnExactReversibleIn', WHERE WHAT IT READS IS OF BULK AT MOST 1048576: true; the input reads as it did. -/
def fnExactReversibleInUptoRow : OpenClaim := { program := "ytjllpcnbahdmhaa", sum := "59b4a8db3c09841f7cf7f75d6781f53a9f5bc453449f34b4a0d2e5cbd66a32ee", func := "loop.example/g00868/laws.FnExactReversibleIn", spec := "fnExactReversibleIn", recurses := true, apart := false, narrowed := true }
def FnExactReversibleInUptoSaid : Prop := fnExactReversibleInUptoRow.holds Try.pinned (OpenSpec.upto fnExactReversibleInSpec)

/-- 'laws.FnExactIsCanon', WHERE WHAT IT READS IS OF BULK AT MOST 1048576: true; the input reads as it did. -/
def fnExactIsCanonUptoRow : OpenClaim := { program := "ytjllpcnbahdmhaa", sum := "59b4a8db3c09841f7cf7f75d6781f53a9f5bc453449f34b4a0d2e5cbd66a32ee", func := "loop.example/g00868/laws.FnExactIsCanon", spec := "fnExactIsCanon", recurses := true, apart := false, narrowed := true }
def FnExactIsCanonUptoSaid : Prop := fnExactIsCanonUptoRow.holds Try.pinned (OpenSpec.upto fnExactIsCanonSpec)

end Rows
end Go.Proofs.Ytjllpcnbahdmhaa
