/-
  No cell of these rows narrows 'for every input' (looked for: loops, veiled, ifaces, maps, wideKeys, modest, calm, conditions, laid).
  DERIVED. THE GIVEN ROWS OF THIS SEAT. 8 by the template 'for every input the law returns true; each argument reads behind the call as it read before'; 0 by the template 'total and deterministic' (their statements: YtabfdaofikccmaaGreatTotals.lean).
  GIVEN WITH THE SEED: the statements are not yours to turn. If you find one false, say at which input.
  Laid BY PROGRAM, IN A SANDBOX (cutbox-rows.mjs): the forced cells as the released guide's own fill.sh prints them over the translation 85f2444917ecc5d9… (all of the seat's roots in one cut). By AI agents, Wed Nov 11 2026. No macro, syntax, notation, axiom, sorry.
-/
import Derived.Test.YtabfdaofikccmaaGreatChecked
import GoSem.Claim
import GoSem.ClaimJoined
import GoSem.ClaimMapViews
import Derived.JoinedTies
import Derived.KernelRfl
namespace Go.Proofs.YtabfdaofikccmaaGreat
/- THE CELL 'sum', in the pinned program and in every row, IS THE sha256 OF THE DUMP (.gsa) THAT YtabfdaofikccmaaGreatProg.lean LOADS. Nothing in Lean hashes anything: it is a label: what it is worth is what the hold of that sum in a sandbox is worth. -/
noncomputable def Tryz.pinned : Pinned := { name := "ytabfdaofikccmaagreat", sum := "85f2444917ecc5d99189a7d7c000328269f544062d77998aa70e577ac9368623", checked := Tryz.checked }
namespace Rows
def none {H : Type} : Left H := { results := [], args := [] }

/-- 'laws.FnMinus': WHATEVER THE INPUT: true; the input reads as it did. -/
def fnMinusSpec : ChangeSpec := { name := "fnMinus", fn := fun _ => fun
  | [d] => { results := [.lit (.bool true)], args := [d] }
  | _ => none }
def fnMinusRow : OpenClaim := { program := "ytabfdaofikccmaagreat", sum := "85f2444917ecc5d99189a7d7c000328269f544062d77998aa70e577ac9368623", func := "loop.example/g00868/laws.FnMinus", spec := "fnMinus", unfollowed := true, recurses := true, apart := false }
def FnMinusSaid : Prop := fnMinusRow.holds Tryz.pinned (OpenSpec.ofChange fnMinusSpec)

/-- ITS FALSE NEIGHBOUR: 'it returns false'. Refute it at one input. -/
def fnMinusWrong : ChangeSpec := { name := "fnMinus", fn := fun _ => fun
  | [d] => { results := [.lit (.bool false)], args := [d] }
  | _ => none }
def FnMinusWrongFalsely : Prop := fnMinusRow.holds Tryz.pinned (OpenSpec.ofChange fnMinusWrong)

/-- 'laws.FnGroup': WHATEVER THE INPUT: true; the input reads as it did. -/
def fnGroupSpec : ChangeSpec := { name := "fnGroup", fn := fun _ => fun
  | [d] => { results := [.lit (.bool true)], args := [d] }
  | _ => none }
def fnGroupRow : OpenClaim := { program := "ytabfdaofikccmaagreat", sum := "85f2444917ecc5d99189a7d7c000328269f544062d77998aa70e577ac9368623", func := "loop.example/g00868/laws.FnGroup", spec := "fnGroup", unfollowed := true, recurses := true, apart := false }
def FnGroupSaid : Prop := fnGroupRow.holds Tryz.pinned (OpenSpec.ofChange fnGroupSpec)

/-- ITS FALSE NEIGHBOUR: 'it returns false'. Refute it at one input. -/
def fnGroupWrong : ChangeSpec := { name := "fnGroup", fn := fun _ => fun
  | [d] => { results := [.lit (.bool false)], args := [d] }
  | _ => none }
def FnGroupWrongFalsely : Prop := fnGroupRow.holds Tryz.pinned (OpenSpec.ofChange fnGroupWrong)

/-- 'laws.FnTimes': WHATEVER THE INPUT: true; the input reads as it did. -/
def fnTimesSpec : ChangeSpec := { name := "fnTimes", fn := fun _ => fun
  | [d] => { results := [.lit (.bool true)], args := [d] }
  | _ => none }
def fnTimesRow : OpenClaim := { program := "ytabfdaofikccmaagreat", sum := "85f2444917ecc5d99189a7d7c000328269f544062d77998aa70e577ac9368623", func := "loop.example/g00868/laws.FnTimes", spec := "fnTimes", unfollowed := true, recurses := true, apart := false }
def FnTimesSaid : Prop := fnTimesRow.holds Tryz.pinned (OpenSpec.ofChange fnTimesSpec)

/-- ITS FALSE NEIGHBOUR: 'it returns false'. Refute it at one input. -/
def fnTimesWrong : ChangeSpec := { name := "fnTimes", fn := fun _ => fun
  | [d] => { results := [.lit (.bool false)], args := [d] }
  | _ => none }
def FnTimesWrongFalsely : Prop := fnTimesRow.holds Tryz.pinned (OpenSpec.ofChange fnTimesWrong)

/-- 'laws.FnOrdinal': WHATEVER THE INPUT: true; the input reads as it did. -/
def fnOrdinalSpec : ChangeSpec := { name := "fnOrdinal", fn := fun _ => fun
  | [d] => { results := [.lit (.bool true)], args := [d] }
  | _ => none }
def fnOrdinalRow : OpenClaim := { program := "ytabfdaofikccmaagreat", sum := "85f2444917ecc5d99189a7d7c000328269f544062d77998aa70e577ac9368623", func := "loop.example/g00868/laws.FnOrdinal", spec := "fnOrdinal", unfollowed := true, recurses := true, apart := false }
def FnOrdinalSaid : Prop := fnOrdinalRow.holds Tryz.pinned (OpenSpec.ofChange fnOrdinalSpec)

/-- ITS FALSE NEIGHBOUR: 'it returns false'. Refute it at one input. -/
def fnOrdinalWrong : ChangeSpec := { name := "fnOrdinal", fn := fun _ => fun
  | [d] => { results := [.lit (.bool false)], args := [d] }
  | _ => none }
def FnOrdinalWrongFalsely : Prop := fnOrdinalRow.holds Tryz.pinned (OpenSpec.ofChange fnOrdinalWrong)

/-- 'laws.FnForms': WHATEVER THE INPUT: true; the input reads as it did. -/
def fnFormsSpec : ChangeSpec := { name := "fnForms", fn := fun _ => fun
  | [d] => { results := [.lit (.bool true)], args := [d] }
  | _ => none }
def fnFormsRow : OpenClaim := { program := "ytabfdaofikccmaagreat", sum := "85f2444917ecc5d99189a7d7c000328269f544062d77998aa70e577ac9368623", func := "loop.example/g00868/laws.FnForms", spec := "fnForms", inPlace := ["internal/abi.NoEscape"], unfollowed := true, recurses := true, apart := false }
def FnFormsSaid : Prop := fnFormsRow.holds Tryz.pinned (OpenSpec.ofChange fnFormsSpec)

/-- ITS FALSE NEIGHBOUR: 'it returns false'. Refute it at one input. -/
def fnFormsWrong : ChangeSpec := { name := "fnForms", fn := fun _ => fun
  | [d] => { results := [.lit (.bool false)], args := [d] }
  | _ => none }
def FnFormsWrongFalsely : Prop := fnFormsRow.holds Tryz.pinned (OpenSpec.ofChange fnFormsWrong)

/-- 'laws.FnExactDropForm': WHATEVER THE INPUT: true; the input reads as it did. -/
def fnExactDropFormSpec : ChangeSpec := { name := "fnExactDropForm", fn := fun _ => fun
  | [d] => { results := [.lit (.bool true)], args := [d] }
  | _ => none }
def fnExactDropFormRow : OpenClaim := { program := "ytabfdaofikccmaagreat", sum := "85f2444917ecc5d99189a7d7c000328269f544062d77998aa70e577ac9368623", func := "loop.example/g00868/laws.FnExactDropForm", spec := "fnExactDropForm", unfollowed := true, recurses := true, apart := false }
def FnExactDropFormSaid : Prop := fnExactDropFormRow.holds Tryz.pinned (OpenSpec.ofChange fnExactDropFormSpec)

/-- ITS FALSE NEIGHBOUR: 'it returns false'. Refute it at one input. -/
def fnExactDropFormWrong : ChangeSpec := { name := "fnExactDropForm", fn := fun _ => fun
  | [d] => { results := [.lit (.bool false)], args := [d] }
  | _ => none }
def FnExactDropFormWrongFalsely : Prop := fnExactDropFormRow.holds Tryz.pinned (OpenSpec.ofChange fnExactDropFormWrong)

/-- 'laws.FnExactBypassForm': WHATEVER THE INPUT: true; the input reads as it did. -/
def fnExactBypassFormSpec : ChangeSpec := { name := "fnExactBypassForm", fn := fun _ => fun
  | [d] => { results := [.lit (.bool true)], args := [d] }
  | _ => none }
def fnExactBypassFormRow : OpenClaim := { program := "ytabfdaofikccmaagreat", sum := "85f2444917ecc5d99189a7d7c000328269f544062d77998aa70e577ac9368623", func := "loop.example/g00868/laws.FnExactBypassForm", spec := "fnExactBypassForm", unfollowed := true, recurses := true, apart := false }
def FnExactBypassFormSaid : Prop := fnExactBypassFormRow.holds Tryz.pinned (OpenSpec.ofChange fnExactBypassFormSpec)

/-- ITS FALSE NEIGHBOUR: 'it returns false'. Refute it at one input. -/
def fnExactBypassFormWrong : ChangeSpec := { name := "fnExactBypassForm", fn := fun _ => fun
  | [d] => { results := [.lit (.bool false)], args := [d] }
  | _ => none }
def FnExactBypassFormWrongFalsely : Prop := fnExactBypassFormRow.holds Tryz.pinned (OpenSpec.ofChange fnExactBypassFormWrong)

/-- 'laws.FnExactCanonOf': WHATEVER THE INPUT: true; the input reads as it did. -/
def fnExactCanonOfSpec : ChangeSpec := { name := "fnExactCanonOf", fn := fun _ => fun
  | [d] => { results := [.lit (.bool true)], args := [d] }
  | _ => none }
def fnExactCanonOfRow : OpenClaim := { program := "ytabfdaofikccmaagreat", sum := "85f2444917ecc5d99189a7d7c000328269f544062d77998aa70e577ac9368623", func := "loop.example/g00868/laws.FnExactCanonOf", spec := "fnExactCanonOf", unfollowed := true, recurses := true, apart := false }
def FnExactCanonOfSaid : Prop := fnExactCanonOfRow.holds Tryz.pinned (OpenSpec.ofChange fnExactCanonOfSpec)

/-- ITS FALSE NEIGHBOUR: 'it returns false'. Refute it at one input. -/
def fnExactCanonOfWrong : ChangeSpec := { name := "fnExactCanonOf", fn := fun _ => fun
  | [d] => { results := [.lit (.bool false)], args := [d] }
  | _ => none }
def FnExactCanonOfWrongFalsely : Prop := fnExactCanonOfRow.holds Tryz.pinned (OpenSpec.ofChange fnExactCanonOfWrong)

/- THE SECOND FORM. 'bulk': how many values and letters a reading holds, each counted each time it is reached (what is shared counts as often as it is met; a slice's spare places count too). A statement '..UptoSaid' is the law's where the arguments, and the package variables that the reading takes, are together of bulk at most 1048576: NARROWER than '..Said'. Prove '..Said' where nothing that the law and all that it calls make is longer than what came in: it says more and counts as full. Else prove '..UptoSaid'. A law counts once. -/
mutual
def uptoBulk {H : Type} : DataW H → Nat
  | .lit (.string bytes) => bytes.length + 1
  | .lit _ => 1
  | .nil => 1
  | .ptr d => uptoBulk d + 1
  | .slice elems spare => uptoBulkAll elems + uptoBulkAll spare + 1
  | .agg parts => uptoBulkAll parts + 1
  | .iface _ d => uptoBulk d + 1
  | .map entries => uptoBulkEntries entries + 1
  | .held _ => 1
def uptoBulkAll {H : Type} : List (DataW H) → Nat
  | [] => 0
  | d :: r => uptoBulk d + uptoBulkAll r
def uptoBulkEntries {H : Type} : List (Lit × DataW H) → Nat
  | [] => 0
  | x :: r => uptoBulkEntry x + uptoBulkEntries r
def uptoBulkEntry {H : Type} : Lit × DataW H → Nat
  | (.string bytes, d) => bytes.length + uptoBulk d + 1
  | (_, d) => uptoBulk d + 1
 end
def uptoSmall : (H : Type) → List (DataW H) → Bool := fun _ ds => decide (uptoBulkAll ds ≤ 1048576)
def OpenSpec.upto (s : _root_.Go.ChangeSpec) : _root_.Go.OpenSpec := { _root_.Go.OpenSpec.ofChange s with cond := some uptoSmall }

/-- 'laws.FnMinus', WHERE WHAT IT READS IS OF BULK AT MOST 1048576: true; the input reads as it did. -/
def fnMinusUptoRow : OpenClaim := { program := "ytabfdaofikccmaagreat", sum := "85f2444917ecc5d99189a7d7c000328269f544062d77998aa70e577ac9368623", func := "loop.example/g00868/laws.FnMinus", spec := "fnMinus", unfollowed := true, recurses := true, apart := false, narrowed := true }
def FnMinusUptoSaid : Prop := fnMinusUptoRow.holds Tryz.pinned (OpenSpec.upto fnMinusSpec)

/-- 'laws.FnGroup', WHERE WHAT IT READS IS OF BULK AT MOST 1048576: true; the input reads as it did. -/
def fnGroupUptoRow : OpenClaim := { program := "ytabfdaofikccmaagreat", sum := "85f2444917ecc5d99189a7d7c000328269f544062d77998aa70e577ac9368623", func := "loop.example/g00868/laws.FnGroup", spec := "fnGroup", unfollowed := true, recurses := true, apart := false, narrowed := true }
def FnGroupUptoSaid : Prop := fnGroupUptoRow.holds Tryz.pinned (OpenSpec.upto fnGroupSpec)

/-- 'laws.FnTimes', WHERE WHAT IT READS IS OF BULK AT MOST 1048576: true; the input reads as it did. -/
def fnTimesUptoRow : OpenClaim := { program := "ytabfdaofikccmaagreat", sum := "85f2444917ecc5d99189a7d7c000328269f544062d77998aa70e577ac9368623", func := "loop.example/g00868/laws.FnTimes", spec := "fnTimes", unfollowed := true, recurses := true, apart := false, narrowed := true }
def FnTimesUptoSaid : Prop := fnTimesUptoRow.holds Tryz.pinned (OpenSpec.upto fnTimesSpec)

/-- 'laws.FnOrdinal', WHERE WHAT IT READS IS OF BULK AT MOST 1048576: true; the input reads as it did. -/
def fnOrdinalUptoRow : OpenClaim := { program := "ytabfdaofikccmaagreat", sum := "85f2444917ecc5d99189a7d7c000328269f544062d77998aa70e577ac9368623", func := "loop.example/g00868/laws.FnOrdinal", spec := "fnOrdinal", unfollowed := true, recurses := true, apart := false, narrowed := true }
def FnOrdinalUptoSaid : Prop := fnOrdinalUptoRow.holds Tryz.pinned (OpenSpec.upto fnOrdinalSpec)

/-- 'laws.FnForms', WHERE WHAT IT READS IS OF BULK AT MOST 1048576: true; the input reads as it did. -/
def fnFormsUptoRow : OpenClaim := { program := "ytabfdaofikccmaagreat", sum := "85f2444917ecc5d99189a7d7c000328269f544062d77998aa70e577ac9368623", func := "loop.example/g00868/laws.FnForms", spec := "fnForms", inPlace := ["internal/abi.NoEscape"], unfollowed := true, recurses := true, apart := false, narrowed := true }
def FnFormsUptoSaid : Prop := fnFormsUptoRow.holds Tryz.pinned (OpenSpec.upto fnFormsSpec)

/-- 'laws.FnExactDropForm', WHERE WHAT IT READS IS OF BULK AT MOST 1048576: true; the input reads as it did. -/
def fnExactDropFormUptoRow : OpenClaim := { program := "ytabfdaofikccmaagreat", sum := "85f2444917ecc5d99189a7d7c000328269f544062d77998aa70e577ac9368623", func := "loop.example/g00868/laws.FnExactDropForm", spec := "fnExactDropForm", unfollowed := true, recurses := true, apart := false, narrowed := true }
def FnExactDropFormUptoSaid : Prop := fnExactDropFormUptoRow.holds Tryz.pinned (OpenSpec.upto fnExactDropFormSpec)

/-- 'laws.FnExactBypassForm', WHERE WHAT IT READS IS OF BULK AT MOST 1048576: true; the input reads as it did. -/
def fnExactBypassFormUptoRow : OpenClaim := { program := "ytabfdaofikccmaagreat", sum := "85f2444917ecc5d99189a7d7c000328269f544062d77998aa70e577ac9368623", func := "loop.example/g00868/laws.FnExactBypassForm", spec := "fnExactBypassForm", unfollowed := true, recurses := true, apart := false, narrowed := true }
def FnExactBypassFormUptoSaid : Prop := fnExactBypassFormUptoRow.holds Tryz.pinned (OpenSpec.upto fnExactBypassFormSpec)

/-- 'laws.FnExactCanonOf', WHERE WHAT IT READS IS OF BULK AT MOST 1048576: true; the input reads as it did. -/
def fnExactCanonOfUptoRow : OpenClaim := { program := "ytabfdaofikccmaagreat", sum := "85f2444917ecc5d99189a7d7c000328269f544062d77998aa70e577ac9368623", func := "loop.example/g00868/laws.FnExactCanonOf", spec := "fnExactCanonOf", unfollowed := true, recurses := true, apart := false, narrowed := true }
def FnExactCanonOfUptoSaid : Prop := fnExactCanonOfUptoRow.holds Tryz.pinned (OpenSpec.upto fnExactCanonOfSpec)

end Rows
end Go.Proofs.YtabfdaofikccmaaGreat
