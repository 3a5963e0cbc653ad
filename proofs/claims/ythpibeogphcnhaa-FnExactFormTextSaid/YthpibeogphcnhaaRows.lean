/-
  No cell of these rows narrows 'for every input' (looked for: loops, veiled, ifaces, maps, wideKeys, modest, calm, conditions, laid).
  DERIVED. THE GIVEN ROWS OF THIS SEAT. 11 by the template 'for every input the law returns true; each argument reads behind the call as it read before'; 0 by the template 'total and deterministic' (their statements: YthpibeogphcnhaaTotals.lean).
  GIVEN WITH THE SEED: the statements are not yours to turn. If you find one false, say at which input.
  Laid BY PROGRAM, IN A SANDBOX (cutbox-rows.mjs): the forced cells as the released guide's own fill.sh prints them over the translation e317062e1dfaa737… (all of the seat's roots in one cut). By AI agents, Wed Nov 11 2026. No macro, syntax, notation, axiom, sorry.
-/
import Derived.Test.YthpibeogphcnhaaChecked
import GoSem.Claim
import GoSem.ClaimJoined
import GoSem.ClaimMapViews
import Derived.JoinedTies
import Derived.KernelRfl
namespace Go.Proofs.Ythpibeogphcnhaa
/- THE CELL 'sum', in the pinned program and in every row, IS THE sha256 OF THE DUMP (.gsa) THAT YthpibeogphcnhaaProg.lean LOADS. Nothing in Lean hashes anything: it is a label: what it is worth is what the hold of that sum in a sandbox is worth. -/
noncomputable def Try.pinned : Pinned := { name := "ythpibeogphcnhaa", sum := "e317062e1dfaa737099f0ba2a0149cc7028377ff15ca774c051dd4a4a2424961", checked := Try.checked }
namespace Rows
def none {H : Type} : Left H := { results := [], args := [] }

/-- 'laws.FnParts': WHATEVER THE INPUT: true; the input reads as it did. -/
def fnPartsSpec : ChangeSpec := { name := "fnParts", fn := fun _ => fun
  | [d] => { results := [.lit (.bool true)], args := [d] }
  | _ => none }
def fnPartsRow : OpenClaim := { program := "ythpibeogphcnhaa", sum := "e317062e1dfaa737099f0ba2a0149cc7028377ff15ca774c051dd4a4a2424961", func := "loop.example/g00868/laws.FnParts", spec := "fnParts", unfollowed := true, recurses := true, apart := false }
def FnPartsSaid : Prop := fnPartsRow.holds Try.pinned (OpenSpec.ofChange fnPartsSpec)

/-- ITS FALSE NEIGHBOUR: 'it returns false'. Refute it at one input. -/
def fnPartsWrong : ChangeSpec := { name := "fnParts", fn := fun _ => fun
  | [d] => { results := [.lit (.bool false)], args := [d] }
  | _ => none }
def FnPartsWrongFalsely : Prop := fnPartsRow.holds Try.pinned (OpenSpec.ofChange fnPartsWrong)

/-- 'laws.FnAhead': WHATEVER THE INPUT: true; the input reads as it did. -/
def fnAheadSpec : ChangeSpec := { name := "fnAhead", fn := fun _ => fun
  | [d] => { results := [.lit (.bool true)], args := [d] }
  | _ => none }
def fnAheadRow : OpenClaim := { program := "ythpibeogphcnhaa", sum := "e317062e1dfaa737099f0ba2a0149cc7028377ff15ca774c051dd4a4a2424961", func := "loop.example/g00868/laws.FnAhead", spec := "fnAhead", unfollowed := true, recurses := true, apart := false }
def FnAheadSaid : Prop := fnAheadRow.holds Try.pinned (OpenSpec.ofChange fnAheadSpec)

/-- ITS FALSE NEIGHBOUR: 'it returns false'. Refute it at one input. -/
def fnAheadWrong : ChangeSpec := { name := "fnAhead", fn := fun _ => fun
  | [d] => { results := [.lit (.bool false)], args := [d] }
  | _ => none }
def FnAheadWrongFalsely : Prop := fnAheadRow.holds Try.pinned (OpenSpec.ofChange fnAheadWrong)

/-- 'laws.FnExactGoodForm': WHATEVER THE INPUT: true; the input reads as it did. -/
def fnExactGoodFormSpec : ChangeSpec := { name := "fnExactGoodForm", fn := fun _ => fun
  | [d] => { results := [.lit (.bool true)], args := [d] }
  | _ => none }
def fnExactGoodFormRow : OpenClaim := { program := "ythpibeogphcnhaa", sum := "e317062e1dfaa737099f0ba2a0149cc7028377ff15ca774c051dd4a4a2424961", func := "loop.example/g00868/laws.FnExactGoodForm", spec := "fnExactGoodForm", apart := false }
def FnExactGoodFormSaid : Prop := fnExactGoodFormRow.holds Try.pinned (OpenSpec.ofChange fnExactGoodFormSpec)

/-- ITS FALSE NEIGHBOUR: 'it returns false'. Refute it at one input. -/
def fnExactGoodFormWrong : ChangeSpec := { name := "fnExactGoodForm", fn := fun _ => fun
  | [d] => { results := [.lit (.bool false)], args := [d] }
  | _ => none }
def FnExactGoodFormWrongFalsely : Prop := fnExactGoodFormRow.holds Try.pinned (OpenSpec.ofChange fnExactGoodFormWrong)

/-- 'laws.FnExactMakeForm': WHATEVER THE INPUT: true; the input reads as it did. -/
def fnExactMakeFormSpec : ChangeSpec := { name := "fnExactMakeForm", fn := fun _ => fun
  | [d1, d2] => { results := [.lit (.bool true)], args := [d1, d2] }
  | _ => none }
def fnExactMakeFormRow : OpenClaim := { program := "ythpibeogphcnhaa", sum := "e317062e1dfaa737099f0ba2a0149cc7028377ff15ca774c051dd4a4a2424961", func := "loop.example/g00868/laws.FnExactMakeForm", spec := "fnExactMakeForm", unfollowed := true, recurses := true, apart := false }
def FnExactMakeFormSaid : Prop := fnExactMakeFormRow.holds Try.pinned (OpenSpec.ofChange fnExactMakeFormSpec)

/-- ITS FALSE NEIGHBOUR: 'it returns false'. Refute it at one input. -/
def fnExactMakeFormWrong : ChangeSpec := { name := "fnExactMakeForm", fn := fun _ => fun
  | [d1, d2] => { results := [.lit (.bool false)], args := [d1, d2] }
  | _ => none }
def FnExactMakeFormWrongFalsely : Prop := fnExactMakeFormRow.holds Try.pinned (OpenSpec.ofChange fnExactMakeFormWrong)

/-- 'laws.FnExactOptionsOf': WHATEVER THE INPUT: true; the input reads as it did. -/
def fnExactOptionsOfSpec : ChangeSpec := { name := "fnExactOptionsOf", fn := fun _ => fun
  | [d] => { results := [.lit (.bool true)], args := [d] }
  | _ => none }
def fnExactOptionsOfRow : OpenClaim := { program := "ythpibeogphcnhaa", sum := "e317062e1dfaa737099f0ba2a0149cc7028377ff15ca774c051dd4a4a2424961", func := "loop.example/g00868/laws.FnExactOptionsOf", spec := "fnExactOptionsOf", recurses := true, apart := false }
def FnExactOptionsOfSaid : Prop := fnExactOptionsOfRow.holds Try.pinned (OpenSpec.ofChange fnExactOptionsOfSpec)

/-- ITS FALSE NEIGHBOUR: 'it returns false'. Refute it at one input. -/
def fnExactOptionsOfWrong : ChangeSpec := { name := "fnExactOptionsOf", fn := fun _ => fun
  | [d] => { results := [.lit (.bool false)], args := [d] }
  | _ => none }
def FnExactOptionsOfWrongFalsely : Prop := fnExactOptionsOfRow.holds Try.pinned (OpenSpec.ofChange fnExactOptionsOfWrong)

/-- 'laws.FnExactSameForm': WHATEVER THE INPUT: true; the input reads as it did. -/
def fnExactSameFormSpec : ChangeSpec := { name := "fnExactSameForm", fn := fun _ => fun
  | [d1, d2] => { results := [.lit (.bool true)], args := [d1, d2] }
  | _ => none }
def fnExactSameFormRow : OpenClaim := { program := "ythpibeogphcnhaa", sum := "e317062e1dfaa737099f0ba2a0149cc7028377ff15ca774c051dd4a4a2424961", func := "loop.example/g00868/laws.FnExactSameForm", spec := "fnExactSameForm", unfollowed := true, recurses := true, apart := false }
def FnExactSameFormSaid : Prop := fnExactSameFormRow.holds Try.pinned (OpenSpec.ofChange fnExactSameFormSpec)

/-- ITS FALSE NEIGHBOUR: 'it returns false'. Refute it at one input. -/
def fnExactSameFormWrong : ChangeSpec := { name := "fnExactSameForm", fn := fun _ => fun
  | [d1, d2] => { results := [.lit (.bool false)], args := [d1, d2] }
  | _ => none }
def FnExactSameFormWrongFalsely : Prop := fnExactSameFormRow.holds Try.pinned (OpenSpec.ofChange fnExactSameFormWrong)

/-- 'laws.FnExactLessForm': WHATEVER THE INPUT: true; the input reads as it did. -/
def fnExactLessFormSpec : ChangeSpec := { name := "fnExactLessForm", fn := fun _ => fun
  | [d1, d2] => { results := [.lit (.bool true)], args := [d1, d2] }
  | _ => none }
def fnExactLessFormRow : OpenClaim := { program := "ythpibeogphcnhaa", sum := "e317062e1dfaa737099f0ba2a0149cc7028377ff15ca774c051dd4a4a2424961", func := "loop.example/g00868/laws.FnExactLessForm", spec := "fnExactLessForm", unfollowed := true, recurses := true, apart := false }
def FnExactLessFormSaid : Prop := fnExactLessFormRow.holds Try.pinned (OpenSpec.ofChange fnExactLessFormSpec)

/-- ITS FALSE NEIGHBOUR: 'it returns false'. Refute it at one input. -/
def fnExactLessFormWrong : ChangeSpec := { name := "fnExactLessForm", fn := fun _ => fun
  | [d1, d2] => { results := [.lit (.bool false)], args := [d1, d2] }
  | _ => none }
def FnExactLessFormWrongFalsely : Prop := fnExactLessFormRow.holds Try.pinned (OpenSpec.ofChange fnExactLessFormWrong)

/-- 'laws.FnExactBornOf': WHATEVER THE INPUT: true; the input reads as it did. -/
def fnExactBornOfSpec : ChangeSpec := { name := "fnExactBornOf", fn := fun _ => fun
  | [d] => { results := [.lit (.bool true)], args := [d] }
  | _ => none }
def fnExactBornOfRow : OpenClaim := { program := "ythpibeogphcnhaa", sum := "e317062e1dfaa737099f0ba2a0149cc7028377ff15ca774c051dd4a4a2424961", func := "loop.example/g00868/laws.FnExactBornOf", spec := "fnExactBornOf", apart := false }
def FnExactBornOfSaid : Prop := fnExactBornOfRow.holds Try.pinned (OpenSpec.ofChange fnExactBornOfSpec)

/-- ITS FALSE NEIGHBOUR: 'it returns false'. Refute it at one input. -/
def fnExactBornOfWrong : ChangeSpec := { name := "fnExactBornOf", fn := fun _ => fun
  | [d] => { results := [.lit (.bool false)], args := [d] }
  | _ => none }
def FnExactBornOfWrongFalsely : Prop := fnExactBornOfRow.holds Try.pinned (OpenSpec.ofChange fnExactBornOfWrong)

/-- 'laws.FnExactPartAt': WHATEVER THE INPUT: true; the input reads as it did. -/
def fnExactPartAtSpec : ChangeSpec := { name := "fnExactPartAt", fn := fun _ => fun
  | [d1, d2] => { results := [.lit (.bool true)], args := [d1, d2] }
  | _ => none }
def fnExactPartAtRow : OpenClaim := { program := "ythpibeogphcnhaa", sum := "e317062e1dfaa737099f0ba2a0149cc7028377ff15ca774c051dd4a4a2424961", func := "loop.example/g00868/laws.FnExactPartAt", spec := "fnExactPartAt", recurses := true, apart := false }
def FnExactPartAtSaid : Prop := fnExactPartAtRow.holds Try.pinned (OpenSpec.ofChange fnExactPartAtSpec)

/-- ITS FALSE NEIGHBOUR: 'it returns false'. Refute it at one input. -/
def fnExactPartAtWrong : ChangeSpec := { name := "fnExactPartAt", fn := fun _ => fun
  | [d1, d2] => { results := [.lit (.bool false)], args := [d1, d2] }
  | _ => none }
def FnExactPartAtWrongFalsely : Prop := fnExactPartAtRow.holds Try.pinned (OpenSpec.ofChange fnExactPartAtWrong)

/-- 'laws.FnExactFormText': WHATEVER THE INPUT: true; the input reads as it did. -/
def fnExactFormTextSpec : ChangeSpec := { name := "fnExactFormText", fn := fun _ => fun
  | [d] => { results := [.lit (.bool true)], args := [d] }
  | _ => none }
def fnExactFormTextRow : OpenClaim := { program := "ythpibeogphcnhaa", sum := "e317062e1dfaa737099f0ba2a0149cc7028377ff15ca774c051dd4a4a2424961", func := "loop.example/g00868/laws.FnExactFormText", spec := "fnExactFormText", inPlace := ["internal/abi.NoEscape"], apart := false }
def FnExactFormTextSaid : Prop := fnExactFormTextRow.holds Try.pinned (OpenSpec.ofChange fnExactFormTextSpec)

/-- ITS FALSE NEIGHBOUR: 'it returns false'. Refute it at one input. -/
def fnExactFormTextWrong : ChangeSpec := { name := "fnExactFormText", fn := fun _ => fun
  | [d] => { results := [.lit (.bool false)], args := [d] }
  | _ => none }
def FnExactFormTextWrongFalsely : Prop := fnExactFormTextRow.holds Try.pinned (OpenSpec.ofChange fnExactFormTextWrong)

/-- 'laws.FnExactReadForm': WHATEVER THE INPUT: true; the input reads as it did. -/
def fnExactReadFormSpec : ChangeSpec := { name := "fnExactReadForm", fn := fun _ => fun
  | [d] => { results := [.lit (.bool true)], args := [d] }
  | _ => none }
def fnExactReadFormRow : OpenClaim := { program := "ythpibeogphcnhaa", sum := "e317062e1dfaa737099f0ba2a0149cc7028377ff15ca774c051dd4a4a2424961", func := "loop.example/g00868/laws.FnExactReadForm", spec := "fnExactReadForm", inPlace := ["internal/abi.NoEscape"], unfollowed := true, recurses := true, apart := false }
def FnExactReadFormSaid : Prop := fnExactReadFormRow.holds Try.pinned (OpenSpec.ofChange fnExactReadFormSpec)

/-- ITS FALSE NEIGHBOUR: 'it returns false'. Refute it at one input. -/
def fnExactReadFormWrong : ChangeSpec := { name := "fnExactReadForm", fn := fun _ => fun
  | [d] => { results := [.lit (.bool false)], args := [d] }
  | _ => none }
def FnExactReadFormWrongFalsely : Prop := fnExactReadFormRow.holds Try.pinned (OpenSpec.ofChange fnExactReadFormWrong)

/- THE SECOND FORM. 'bulk': how many values and letters a reading holds, each counted each time it is reached (what is shared counts as often as it is met; a slice's spare places count too). A statement '..UptoSaid' is the law's where the arguments, and the package variables that the reading takes, are together of bulk at most 1048576: NARROWER than '..Said'. Prove '..Said' where nothing that the law and all that it calls make is longer than what came in: it says more and counts as full. Else prove '..UptoSaid'. A law counts once. -/
mutual
def uptoBulk {H : Type} : DataW H → Nat
  | .lit (.string bytes) => bytes.length + 1
  | .lit _ => 1
  | .nil => 1
  | .ptr d => uptoBulk d + 1
  | .slice elems spare => uptoBulkAll elems + uptoBulkAll spare + 1
  | .agg parts => uptoBulkAll parts + 1
  | .iface _ d => uptoBulk d + 1
  | .map entries => uptoBulkEntries entries + 1
  | .held _ => 1
def uptoBulkAll {H : Type} : List (DataW H) → Nat
  | [] => 0
  | d :: r => uptoBulk d + uptoBulkAll r
def uptoBulkEntries {H : Type} : List (Lit × DataW H) → Nat
  | [] => 0
  | x :: r => uptoBulkEntry x + uptoBulkEntries r
def uptoBulkEntry {H : Type} : Lit × DataW H → Nat
  | (.string bytes, d) => bytes.length + uptoBulk d + 1
  | (_, d) => uptoBulk d + 1
 end
def uptoSmall : (H : Type) → List (DataW H) → Bool := fun _ ds => decide (uptoBulkAll ds ≤ 1048576)
def OpenSpec.upto (s : _root_.Go.ChangeSpec) : _root_.Go.OpenSpec := { _root_.Go.OpenSpec.ofChange s with cond := some uptoSmall }

/-- 'laws.FnParts', WHERE WHAT IT READS IS OF BULK AT MOST 1048576: true; the input reads as it did. -/
def fnPartsUptoRow : OpenClaim := { program := "ythpibeogphcnhaa", sum := "e317062e1dfaa737099f0ba2a0149cc7028377ff15ca774c051dd4a4a2424961", func := "loop.example/g00868/laws.FnParts", spec := "fnParts", unfollowed := true, recurses := true, apart := false, narrowed := true }
def FnPartsUptoSaid : Prop := fnPartsUptoRow.holds Try.pinned (OpenSpec.upto fnPartsSpec)

/-- 'laws.FnAhead', WHERE WHAT IT READS IS OF BULK AT MOST 1048576: true; the input reads as it did. -/
def fnAheadUptoRow : OpenClaim := { program := "ythpibeogphcnhaa", sum := "e317062e1dfaa737099f0ba2a0149cc7028377ff15ca774c051dd4a4a2424961", func := "loop.example/g00868/laws.FnAhead", spec := "fnAhead", unfollowed := true, recurses := true, apart := false, narrowed := true }
def FnAheadUptoSaid : Prop := fnAheadUptoRow.holds Try.pinned (OpenSpec.upto fnAheadSpec)

/-- 'laws.FnExactGoodForm', WHERE WHAT IT READS IS OF BULK AT MOST 1048576: true; the input reads as it did. -/
def fnExactGoodFormUptoRow : OpenClaim := { program := "ythpibeogphcnhaa", sum := "e317062e1dfaa737099f0ba2a0149cc7028377ff15ca774c051dd4a4a2424961", func := "loop.example/g00868/laws.FnExactGoodForm", spec := "fnExactGoodForm", apart := false, narrowed := true }
def FnExactGoodFormUptoSaid : Prop := fnExactGoodFormUptoRow.holds Try.pinned (OpenSpec.upto fnExactGoodFormSpec)

/-- 'laws.FnExactMakeForm', WHERE WHAT IT READS IS OF BULK AT MOST 1048576: true; the input reads as it did. -/
def fnExactMakeFormUptoRow : OpenClaim := { program := "ythpibeogphcnhaa", sum := "e317062e1dfaa737099f0ba2a0149cc7028377ff15ca774c051dd4a4a2424961", func := "loop.example/g00868/laws.FnExactMakeForm", spec := "fnExactMakeForm", unfollowed := true, recurses := true, apart := false, narrowed := true }
def FnExactMakeFormUptoSaid : Prop := fnExactMakeFormUptoRow.holds Try.pinned (OpenSpec.upto fnExactMakeFormSpec)

/-- 'laws.FnExactOptionsOf', WHERE WHAT IT READS IS OF BULK AT MOST 1048576: true; the input reads as it did. -/
def fnExactOptionsOfUptoRow : OpenClaim := { program := "ythpibeogphcnhaa", sum := "e317062e1dfaa737099f0ba2a0149cc7028377ff15ca774c051dd4a4a2424961", func := "loop.example/g00868/laws.FnExactOptionsOf", spec := "fnExactOptionsOf", recurses := true, apart := false, narrowed := true }
def FnExactOptionsOfUptoSaid : Prop := fnExactOptionsOfUptoRow.holds Try.pinned (OpenSpec.upto fnExactOptionsOfSpec)

/-- 'laws.FnExactSameForm', WHERE WHAT IT READS IS OF BULK AT MOST 1048576: true; the input reads as it did. -/
def fnExactSameFormUptoRow : OpenClaim := { program := "ythpibeogphcnhaa", sum := "e317062e1dfaa737099f0ba2a0149cc7028377ff15ca774c051dd4a4a2424961", func := "loop.example/g00868/laws.FnExactSameForm", spec := "fnExactSameForm", unfollowed := true, recurses := true, apart := false, narrowed := true }
def FnExactSameFormUptoSaid : Prop := fnExactSameFormUptoRow.holds Try.pinned (OpenSpec.upto fnExactSameFormSpec)

/-- 'laws.FnExactLessForm', WHERE WHAT IT READS IS OF BULK AT MOST 1048576: true; the input reads as it did. -/
def fnExactLessFormUptoRow : OpenClaim := { program := "ythpibeogphcnhaa", sum := "e317062e1dfaa737099f0ba2a0149cc7028377ff15ca774c051dd4a4a2424961", func := "loop.example/g00868/laws.FnExactLessForm", spec := "fnExactLessForm", unfollowed := true, recurses := true, apart := false, narrowed := true }
def FnExactLessFormUptoSaid : Prop := fnExactLessFormUptoRow.holds Try.pinned (OpenSpec.upto fnExactLessFormSpec)

/-- 'laws.FnExactBornOf', WHERE WHAT IT READS IS OF BULK AT MOST 1048576: true; the input reads as it did. -/
def fnExactBornOfUptoRow : OpenClaim := { program := "ythpibeogphcnhaa", sum := "e317062e1dfaa737099f0ba2a0149cc7028377ff15ca774c051dd4a4a2424961", func := "loop.example/g00868/laws.FnExactBornOf", spec := "fnExactBornOf", apart := false, narrowed := true }
def FnExactBornOfUptoSaid : Prop := fnExactBornOfUptoRow.holds Try.pinned (OpenSpec.upto fnExactBornOfSpec)

/-- 'laws.FnExactPartAt', WHERE WHAT IT READS IS OF BULK AT MOST 1048576: true; the input reads as it did. -/
def fnExactPartAtUptoRow : OpenClaim := { program := "ythpibeogphcnhaa", sum := "e317062e1dfaa737099f0ba2a0149cc7028377ff15ca774c051dd4a4a2424961", func := "loop.example/g00868/laws.FnExactPartAt", spec := "fnExactPartAt", recurses := true, apart := false, narrowed := true }
def FnExactPartAtUptoSaid : Prop := fnExactPartAtUptoRow.holds Try.pinned (OpenSpec.upto fnExactPartAtSpec)

/-- 'laws.FnExactFormText', WHERE WHAT IT READS IS OF BULK AT MOST 1048576: true; the input reads as it did. -/
def fnExactFormTextUptoRow : OpenClaim := { program := "ythpibeogphcnhaa", sum := "e317062e1dfaa737099f0ba2a0149cc7028377ff15ca774c051dd4a4a2424961", func := "loop.example/g00868/laws.FnExactFormText", spec := "fnExactFormText", inPlace := ["internal/abi.NoEscape"], apart := false, narrowed := true }
def FnExactFormTextUptoSaid : Prop := fnExactFormTextUptoRow.holds Try.pinned (OpenSpec.upto fnExactFormTextSpec)

/-- 'laws.FnExactReadForm', WHERE WHAT IT READS IS OF BULK AT MOST 1048576: true; the input reads as it did. -/
def fnExactReadFormUptoRow : OpenClaim := { program := "ythpibeogphcnhaa", sum := "e317062e1dfaa737099f0ba2a0149cc7028377ff15ca774c051dd4a4a2424961", func := "loop.example/g00868/laws.FnExactReadForm", spec := "fnExactReadForm", inPlace := ["internal/abi.NoEscape"], unfollowed := true, recurses := true, apart := false, narrowed := true }
def FnExactReadFormUptoSaid : Prop := fnExactReadFormUptoRow.holds Try.pinned (OpenSpec.upto fnExactReadFormSpec)

end Rows
end Go.Proofs.Ythpibeogphcnhaa
