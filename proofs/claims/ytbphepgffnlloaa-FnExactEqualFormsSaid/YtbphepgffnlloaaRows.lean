/-
  No cell of these rows narrows 'for every input' (looked for: loops, veiled, ifaces, maps, wideKeys, modest, calm, conditions, laid).
  DERIVED. THE GIVEN ROWS OF THIS SEAT. 9 by the template 'for every input the law returns true; each argument reads behind the call as it read before'; 0 by the template 'total and deterministic' (their statements: YtbphepgffnlloaaTotals.lean).
  GIVEN WITH THE SEED: the statements are not yours to turn. If you find one false, say at which input.
  Laid BY PROGRAM, IN A SANDBOX (cutbox-rows.mjs): the forced cells as the released guide's own fill.sh prints them over the translation 20919903937334f6… (all of the seat's roots in one cut). By AI agents, Wed Nov 11 2026. No macro, syntax, notation, axiom, sorry.
-/
import Derived.Test.YtbphepgffnlloaaChecked
import GoSem.Claim
import GoSem.ClaimJoined
import GoSem.ClaimMapViews
import Derived.JoinedTies
import Derived.KernelRfl
namespace Go.Proofs.Ytbphepgffnlloaa
/- THE CELL 'sum', in the pinned program and in every row, IS THE sha256 OF THE DUMP (.gsa) THAT YtbphepgffnlloaaProg.lean LOADS. Nothing in Lean hashes anything: it is a label: what it is worth is what the hold of that sum in a sandbox is worth. -/
noncomputable def Try.pinned : Pinned := { name := "ytbphepgffnlloaa", sum := "20919903937334f608df017a63be1ffb0f967e1ac0ade1b5c2c089184f052b49", checked := Try.checked }
namespace Rows
def none {H : Type} : Left H := { results := [], args := [] }

/-- 'laws.FnExactMakeForm': WHATEVER THE INPUT: true; the input reads as it did. -/
def fnExactMakeFormSpec : ChangeSpec := { name := "fnExactMakeForm", fn := fun _ => fun
  | [d1, d2] => { results := [.lit (.bool true)], args := [d1, d2] }
  | _ => none }
def fnExactMakeFormRow : OpenClaim := { program := "ytbphepgffnlloaa", sum := "20919903937334f608df017a63be1ffb0f967e1ac0ade1b5c2c089184f052b49", func := "loop.example/g00868/laws.FnExactMakeForm", spec := "fnExactMakeForm", unfollowed := true, recurses := true, apart := false }
def FnExactMakeFormSaid : Prop := fnExactMakeFormRow.holds Try.pinned (OpenSpec.ofChange fnExactMakeFormSpec)

/-- ITS FALSE NEIGHBOUR: 'it returns false'. Refute it at one input. -/
def fnExactMakeFormWrong : ChangeSpec := { name := "fnExactMakeForm", fn := fun _ => fun
  | [d1, d2] => { results := [.lit (.bool false)], args := [d1, d2] }
  | _ => none }
def FnExactMakeFormWrongFalsely : Prop := fnExactMakeFormRow.holds Try.pinned (OpenSpec.ofChange fnExactMakeFormWrong)

/-- 'laws.FnExactLessForm': WHATEVER THE INPUT: true; the input reads as it did. -/
def fnExactLessFormSpec : ChangeSpec := { name := "fnExactLessForm", fn := fun _ => fun
  | [d1, d2] => { results := [.lit (.bool true)], args := [d1, d2] }
  | _ => none }
def fnExactLessFormRow : OpenClaim := { program := "ytbphepgffnlloaa", sum := "20919903937334f608df017a63be1ffb0f967e1ac0ade1b5c2c089184f052b49", func := "loop.example/g00868/laws.FnExactLessForm", spec := "fnExactLessForm", unfollowed := true, recurses := true, apart := false }
def FnExactLessFormSaid : Prop := fnExactLessFormRow.holds Try.pinned (OpenSpec.ofChange fnExactLessFormSpec)

/-- ITS FALSE NEIGHBOUR: 'it returns false'. Refute it at one input. -/
def fnExactLessFormWrong : ChangeSpec := { name := "fnExactLessForm", fn := fun _ => fun
  | [d1, d2] => { results := [.lit (.bool false)], args := [d1, d2] }
  | _ => none }
def FnExactLessFormWrongFalsely : Prop := fnExactLessFormRow.holds Try.pinned (OpenSpec.ofChange fnExactLessFormWrong)

/-- 'laws.FnExactReadForm': WHATEVER THE INPUT: true; the input reads as it did. -/
def fnExactReadFormSpec : ChangeSpec := { name := "fnExactReadForm", fn := fun _ => fun
  | [d] => { results := [.lit (.bool true)], args := [d] }
  | _ => none }
def fnExactReadFormRow : OpenClaim := { program := "ytbphepgffnlloaa", sum := "20919903937334f608df017a63be1ffb0f967e1ac0ade1b5c2c089184f052b49", func := "loop.example/g00868/laws.FnExactReadForm", spec := "fnExactReadForm", inPlace := ["internal/abi.NoEscape"], unfollowed := true, recurses := true, apart := false }
def FnExactReadFormSaid : Prop := fnExactReadFormRow.holds Try.pinned (OpenSpec.ofChange fnExactReadFormSpec)

/-- ITS FALSE NEIGHBOUR: 'it returns false'. Refute it at one input. -/
def fnExactReadFormWrong : ChangeSpec := { name := "fnExactReadForm", fn := fun _ => fun
  | [d] => { results := [.lit (.bool false)], args := [d] }
  | _ => none }
def FnExactReadFormWrongFalsely : Prop := fnExactReadFormRow.holds Try.pinned (OpenSpec.ofChange fnExactReadFormWrong)

/-- 'laws.FnExactGreatestOf': WHATEVER THE INPUT: true; the input reads as it did. -/
def fnExactGreatestOfSpec : ChangeSpec := { name := "fnExactGreatestOf", fn := fun _ => fun
  | [d] => { results := [.lit (.bool true)], args := [d] }
  | _ => none }
def fnExactGreatestOfRow : OpenClaim := { program := "ytbphepgffnlloaa", sum := "20919903937334f608df017a63be1ffb0f967e1ac0ade1b5c2c089184f052b49", func := "loop.example/g00868/laws.FnExactGreatestOf", spec := "fnExactGreatestOf", unfollowed := true, recurses := true, apart := false }
def FnExactGreatestOfSaid : Prop := fnExactGreatestOfRow.holds Try.pinned (OpenSpec.ofChange fnExactGreatestOfSpec)

/-- ITS FALSE NEIGHBOUR: 'it returns false'. Refute it at one input. -/
def fnExactGreatestOfWrong : ChangeSpec := { name := "fnExactGreatestOf", fn := fun _ => fun
  | [d] => { results := [.lit (.bool false)], args := [d] }
  | _ => none }
def FnExactGreatestOfWrongFalsely : Prop := fnExactGreatestOfRow.holds Try.pinned (OpenSpec.ofChange fnExactGreatestOfWrong)

/-- 'laws.FnExactNegForm': WHATEVER THE INPUT: true; the input reads as it did. -/
def fnExactNegFormSpec : ChangeSpec := { name := "fnExactNegForm", fn := fun _ => fun
  | [d] => { results := [.lit (.bool true)], args := [d] }
  | _ => none }
def fnExactNegFormRow : OpenClaim := { program := "ytbphepgffnlloaa", sum := "20919903937334f608df017a63be1ffb0f967e1ac0ade1b5c2c089184f052b49", func := "loop.example/g00868/laws.FnExactNegForm", spec := "fnExactNegForm", unfollowed := true, recurses := true, apart := false }
def FnExactNegFormSaid : Prop := fnExactNegFormRow.holds Try.pinned (OpenSpec.ofChange fnExactNegFormSpec)

/-- ITS FALSE NEIGHBOUR: 'it returns false'. Refute it at one input. -/
def fnExactNegFormWrong : ChangeSpec := { name := "fnExactNegForm", fn := fun _ => fun
  | [d] => { results := [.lit (.bool false)], args := [d] }
  | _ => none }
def FnExactNegFormWrongFalsely : Prop := fnExactNegFormRow.holds Try.pinned (OpenSpec.ofChange fnExactNegFormWrong)

/-- 'laws.FnExactSumForms': WHATEVER THE INPUT: true; the input reads as it did. -/
def fnExactSumFormsSpec : ChangeSpec := { name := "fnExactSumForms", fn := fun _ => fun
  | [d1, d2] => { results := [.lit (.bool true)], args := [d1, d2] }
  | _ => none }
def fnExactSumFormsRow : OpenClaim := { program := "ytbphepgffnlloaa", sum := "20919903937334f608df017a63be1ffb0f967e1ac0ade1b5c2c089184f052b49", func := "loop.example/g00868/laws.FnExactSumForms", spec := "fnExactSumForms", unfollowed := true, recurses := true, apart := false }
def FnExactSumFormsSaid : Prop := fnExactSumFormsRow.holds Try.pinned (OpenSpec.ofChange fnExactSumFormsSpec)

/-- ITS FALSE NEIGHBOUR: 'it returns false'. Refute it at one input. -/
def fnExactSumFormsWrong : ChangeSpec := { name := "fnExactSumForms", fn := fun _ => fun
  | [d1, d2] => { results := [.lit (.bool false)], args := [d1, d2] }
  | _ => none }
def FnExactSumFormsWrongFalsely : Prop := fnExactSumFormsRow.holds Try.pinned (OpenSpec.ofChange fnExactSumFormsWrong)

/-- 'laws.FnExactOrdinalSum': WHATEVER THE INPUT: true; the input reads as it did. -/
def fnExactOrdinalSumSpec : ChangeSpec := { name := "fnExactOrdinalSum", fn := fun _ => fun
  | [d1, d2] => { results := [.lit (.bool true)], args := [d1, d2] }
  | _ => none }
def fnExactOrdinalSumRow : OpenClaim := { program := "ytbphepgffnlloaa", sum := "20919903937334f608df017a63be1ffb0f967e1ac0ade1b5c2c089184f052b49", func := "loop.example/g00868/laws.FnExactOrdinalSum", spec := "fnExactOrdinalSum", unfollowed := true, recurses := true, apart := false }
def FnExactOrdinalSumSaid : Prop := fnExactOrdinalSumRow.holds Try.pinned (OpenSpec.ofChange fnExactOrdinalSumSpec)

/-- ITS FALSE NEIGHBOUR: 'it returns false'. Refute it at one input. -/
def fnExactOrdinalSumWrong : ChangeSpec := { name := "fnExactOrdinalSum", fn := fun _ => fun
  | [d1, d2] => { results := [.lit (.bool false)], args := [d1, d2] }
  | _ => none }
def FnExactOrdinalSumWrongFalsely : Prop := fnExactOrdinalSumRow.holds Try.pinned (OpenSpec.ofChange fnExactOrdinalSumWrong)

/-- 'laws.FnExactCompareForms': WHATEVER THE INPUT: true; the input reads as it did. -/
def fnExactCompareFormsSpec : ChangeSpec := { name := "fnExactCompareForms", fn := fun _ => fun
  | [d1, d2] => { results := [.lit (.bool true)], args := [d1, d2] }
  | _ => none }
def fnExactCompareFormsRow : OpenClaim := { program := "ytbphepgffnlloaa", sum := "20919903937334f608df017a63be1ffb0f967e1ac0ade1b5c2c089184f052b49", func := "loop.example/g00868/laws.FnExactCompareForms", spec := "fnExactCompareForms", recurses := true, apart := false }
def FnExactCompareFormsSaid : Prop := fnExactCompareFormsRow.holds Try.pinned (OpenSpec.ofChange fnExactCompareFormsSpec)

/-- ITS FALSE NEIGHBOUR: 'it returns false'. Refute it at one input. -/
def fnExactCompareFormsWrong : ChangeSpec := { name := "fnExactCompareForms", fn := fun _ => fun
  | [d1, d2] => { results := [.lit (.bool false)], args := [d1, d2] }
  | _ => none }
def FnExactCompareFormsWrongFalsely : Prop := fnExactCompareFormsRow.holds Try.pinned (OpenSpec.ofChange fnExactCompareFormsWrong)

/-- 'laws.FnExactEqualForms': WHATEVER THE INPUT: true; the input reads as it did. -/
def fnExactEqualFormsSpec : ChangeSpec := { name := "fnExactEqualForms", fn := fun _ => fun
  | [d1, d2] => { results := [.lit (.bool true)], args := [d1, d2] }
  | _ => none }
def fnExactEqualFormsRow : OpenClaim := { program := "ytbphepgffnlloaa", sum := "20919903937334f608df017a63be1ffb0f967e1ac0ade1b5c2c089184f052b49", func := "loop.example/g00868/laws.FnExactEqualForms", spec := "fnExactEqualForms", recurses := true, apart := false }
def FnExactEqualFormsSaid : Prop := fnExactEqualFormsRow.holds Try.pinned (OpenSpec.ofChange fnExactEqualFormsSpec)

/-- ITS FALSE NEIGHBOUR: 'it returns false'. Refute it at one input. -/
def fnExactEqualFormsWrong : ChangeSpec := { name := "fnExactEqualForms", fn := fun _ => fun
  | [d1, d2] => { results := [.lit (.bool false)], args := [d1, d2] }
  | _ => none }
def FnExactEqualFormsWrongFalsely : Prop := fnExactEqualFormsRow.holds Try.pinned (OpenSpec.ofChange fnExactEqualFormsWrong)

/- THE SECOND FORM. 'bulk': how many values and letters a reading holds, each counted each time it is reached (what is shared counts as often as it is met; a slice's spare places count too). A statement '..UptoSaid' is the law's where the arguments, and the package variables that the reading takes, are together of bulk at most 1048576: NARROWER than '..Said'. Prove '..Said' where nothing that the law and all that it calls make is longer than what came in: it says more and counts as full. Else prove '..UptoSaid'. A law counts once. -/
mutual
def uptoBulk {H : Type} : DataW H → Nat
  | .lit (.string bytes) => bytes.length + 1
  | .lit _ => 1
  | .nil => 1
  | .ptr d => uptoBulk d + 1
  | .slice elems spare => uptoBulkAll elems + uptoBulkAll spare + 1
  | .agg parts => uptoBulkAll parts + 1
  | .iface _ d => uptoBulk d + 1
  | .map entries => uptoBulkEntries entries + 1
  | .held _ => 1
def uptoBulkAll {H : Type} : List (DataW H) → Nat
  | [] => 0
  | d :: r => uptoBulk d + uptoBulkAll r
def uptoBulkEntries {H : Type} : List (Lit × DataW H) → Nat
  | [] => 0
  | x :: r => uptoBulkEntry x + uptoBulkEntries r
def uptoBulkEntry {H : Type} : Lit × DataW H → Nat
  | (.string bytes, d) => bytes.length + uptoBulk d + 1
  | (_, d) => uptoBulk d + 1
 end
def uptoSmall : (H : Type) → List (DataW H) → Bool := fun _ ds => decide (uptoBulkAll ds ≤ 1048576)
def OpenSpec.upto (s : _root_.Go.ChangeSpec) : _root_.Go.OpenSpec := { _root_.Go.OpenSpec.ofChange s with cond := some uptoSmall }

/-- 'laws.FnExactMakeForm', WHERE WHAT IT READS IS OF BULK AT MOST 1048576: true; the input reads as it did. -/
def fnExactMakeFormUptoRow : OpenClaim := { program := "ytbphepgffnlloaa", sum := "20919903937334f608df017a63be1ffb0f967e1ac0ade1b5c2c089184f052b49", func := "loop.example/g00868/laws.FnExactMakeForm", spec := "fnExactMakeForm", unfollowed := true, recurses := true, apart := false, narrowed := true }
def FnExactMakeFormUptoSaid : Prop := fnExactMakeFormUptoRow.holds Try.pinned (OpenSpec.upto fnExactMakeFormSpec)

/-- 'laws.FnExactLessForm', WHERE WHAT IT READS IS OF BULK AT MOST 1048576: true; the input reads as it did. -/
def fnExactLessFormUptoRow : OpenClaim := { program := "ytbphepgffnlloaa", sum := "20919903937334f608df017a63be1ffb0f967e1ac0ade1b5c2c089184f052b49", func := "loop.example/g00868/laws.FnExactLessForm", spec := "fnExactLessForm", unfollowed := true, recurses := true, apart := false, narrowed := true }
def FnExactLessFormUptoSaid : Prop := fnExactLessFormUptoRow.holds Try.pinned (OpenSpec.upto fnExactLessFormSpec)

/-- 'laws.FnExactReadForm', WHERE WHAT IT READS IS OF BULK AT MOST 1048576: true; the input reads as it did. -/
def fnExactReadFormUptoRow : OpenClaim := { program := "ytbphepgffnlloaa", sum := "20919903937334f608df017a63be1ffb0f967e1ac0ade1b5c2c089184f052b49", func := "loop.example/g00868/laws.FnExactReadForm", spec := "fnExactReadForm", inPlace := ["internal/abi.NoEscape"], unfollowed := true, recurses := true, apart := false, narrowed := true }
def FnExactReadFormUptoSaid : Prop := fnExactReadFormUptoRow.holds Try.pinned (OpenSpec.upto fnExactReadFormSpec)

/-- 'laws.FnExactGreatestOf', WHERE WHAT IT READS IS OF BULK AT MOST 1048576: true; the input reads as it did. -/
def fnExactGreatestOfUptoRow : OpenClaim := { program := "ytbphepgffnlloaa", sum := "20919903937334f608df017a63be1ffb0f967e1ac0ade1b5c2c089184f052b49", func := "loop.example/g00868/laws.FnExactGreatestOf", spec := "fnExactGreatestOf", unfollowed := true, recurses := true, apart := false, narrowed := true }
def FnExactGreatestOfUptoSaid : Prop := fnExactGreatestOfUptoRow.holds Try.pinned (OpenSpec.upto fnExactGreatestOfSpec)

/-- 'laws.FnExactNegForm', WHERE WHAT IT READS IS OF BULK AT MOST 1048576: true; the input reads as it did. -/
def fnExactNegFormUptoRow : OpenClaim := { program := "ytbphepgffnlloaa", sum := "20919903937334f608df017a63be1ffb0f967e1ac0ade1b5c2c089184f052b49", func := "loop.example/g00868/laws.FnExactNegForm", spec := "fnExactNegForm", unfollowed := true, recurses := true, apart := false, narrowed := true }
def FnExactNegFormUptoSaid : Prop := fnExactNegFormUptoRow.holds Try.pinned (OpenSpec.upto fnExactNegFormSpec)

/-- 'laws.FnExactSumForms', WHERE WHAT IT READS IS OF BULK AT MOST 1048576: true; the input reads as it did. -/
def fnExactSumFormsUptoRow : OpenClaim := { program := "ytbphepgffnlloaa", sum := "20919903937334f608df017a63be1ffb0f967e1ac0ade1b5c2c089184f052b49", func := "loop.example/g00868/laws.FnExactSumForms", spec := "fnExactSumForms", unfollowed := true, recurses := true, apart := false, narrowed := true }
def FnExactSumFormsUptoSaid : Prop := fnExactSumFormsUptoRow.holds Try.pinned (OpenSpec.upto fnExactSumFormsSpec)

/-- 'laws.FnExactOrdinalSum', WHERE WHAT IT READS IS OF BULK AT MOST 1048576: true; the input reads as it did. -/
def fnExactOrdinalSumUptoRow : OpenClaim := { program := "ytbphepgffnlloaa", sum := "20919903937334f608df017a63be1ffb0f967e1ac0ade1b5c2c089184f052b49", func := "loop.example/g00868/laws.FnExactOrdinalSum", spec := "fnExactOrdinalSum", unfollowed := true, recurses := true, apart := false, narrowed := true }
def FnExactOrdinalSumUptoSaid : Prop := fnExactOrdinalSumUptoRow.holds Try.pinned (OpenSpec.upto fnExactOrdinalSumSpec)

/-- 'laws.FnExactCompareForms', WHERE WHAT IT READS IS OF BULK AT MOST 1048576: true; the input reads as it did. -/
def fnExactCompareFormsUptoRow : OpenClaim := { program := "ytbphepgffnlloaa", sum := "20919903937334f608df017a63be1ffb0f967e1ac0ade1b5c2c089184f052b49", func := "loop.example/g00868/laws.FnExactCompareForms", spec := "fnExactCompareForms", recurses := true, apart := false, narrowed := true }
def FnExactCompareFormsUptoSaid : Prop := fnExactCompareFormsUptoRow.holds Try.pinned (OpenSpec.upto fnExactCompareFormsSpec)

/-- 'laws.FnExactEqualForms', WHERE WHAT IT READS IS OF BULK AT MOST 1048576: true; the input reads as it did. -/
def fnExactEqualFormsUptoRow : OpenClaim := { program := "ytbphepgffnlloaa", sum := "20919903937334f608df017a63be1ffb0f967e1ac0ade1b5c2c089184f052b49", func := "loop.example/g00868/laws.FnExactEqualForms", spec := "fnExactEqualForms", recurses := true, apart := false, narrowed := true }
def FnExactEqualFormsUptoSaid : Prop := fnExactEqualFormsUptoRow.holds Try.pinned (OpenSpec.upto fnExactEqualFormsSpec)

end Rows
end Go.Proofs.Ytbphepgffnlloaa
