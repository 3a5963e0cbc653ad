/-
  No cell of these rows narrows 'for every input' (looked for: loops, veiled, ifaces, maps, wideKeys, modest, calm, conditions, laid).
  DERIVED. THE GIVEN ROWS OF THIS SEAT. 4 by the template 'for every input the law returns true; each argument reads behind the call as it read before'; 0 by the template 'total and deterministic' (their statements: YtiacgcpcgabdoaaGreatTotals.lean).
  GIVEN WITH THE SEED: the statements are not yours to turn. If you find one false, say at which input.
  Laid BY PROGRAM, IN A SANDBOX (cutbox-rows.mjs): the forced cells as the released guide's own fill.sh prints them over the translation e02efdaa312cc302… (all of the seat's roots in one cut). By AI agents, Wed Nov 11 2026. No macro, syntax, notation, axiom, sorry.
-/
import Derived.Test.YtiacgcpcgabdoaaGreatChecked
import GoSem.Claim
import GoSem.ClaimJoined
import GoSem.ClaimMapViews
import Derived.JoinedTies
import Derived.KernelRfl
namespace Go.Proofs.YtiacgcpcgabdoaaGreat
/- THE CELL 'sum', in the pinned program and in every row, IS THE sha256 OF THE DUMP (.gsa) THAT YtiacgcpcgabdoaaGreatProg.lean LOADS. Nothing in Lean hashes anything: it is a label: what it is worth is what the hold of that sum in a sandbox is worth. -/
noncomputable def Tryz.pinned : Pinned := { name := "ytiacgcpcgabdoaagreat", sum := "e02efdaa312cc302bf3027eab38c413b45500c72bcd15d1fa3e56c428b718f80", checked := Tryz.checked }
namespace Rows
def none {H : Type} : Left H := { results := [], args := [] }

/-- 'laws.FnNegOrder': WHATEVER THE INPUT: true; the input reads as it did. -/
def fnNegOrderSpec : ChangeSpec := { name := "fnNegOrder", fn := fun _ => fun
  | [d] => { results := [.lit (.bool true)], args := [d] }
  | _ => none }
def fnNegOrderRow : OpenClaim := { program := "ytiacgcpcgabdoaagreat", sum := "e02efdaa312cc302bf3027eab38c413b45500c72bcd15d1fa3e56c428b718f80", func := "loop.example/g00868/laws.FnNegOrder", spec := "fnNegOrder", unfollowed := true, recurses := true, apart := false }
def FnNegOrderSaid : Prop := fnNegOrderRow.holds Tryz.pinned (OpenSpec.ofChange fnNegOrderSpec)

/-- ITS FALSE NEIGHBOUR: 'it returns false'. Refute it at one input. -/
def fnNegOrderWrong : ChangeSpec := { name := "fnNegOrder", fn := fun _ => fun
  | [d] => { results := [.lit (.bool false)], args := [d] }
  | _ => none }
def FnNegOrderWrongFalsely : Prop := fnNegOrderRow.holds Tryz.pinned (OpenSpec.ofChange fnNegOrderWrong)

/-- 'laws.FnExactDropForm': WHATEVER THE INPUT: true; the input reads as it did. -/
def fnExactDropFormSpec : ChangeSpec := { name := "fnExactDropForm", fn := fun _ => fun
  | [d] => { results := [.lit (.bool true)], args := [d] }
  | _ => none }
def fnExactDropFormRow : OpenClaim := { program := "ytiacgcpcgabdoaagreat", sum := "e02efdaa312cc302bf3027eab38c413b45500c72bcd15d1fa3e56c428b718f80", func := "loop.example/g00868/laws.FnExactDropForm", spec := "fnExactDropForm", unfollowed := true, recurses := true, apart := false }
def FnExactDropFormSaid : Prop := fnExactDropFormRow.holds Tryz.pinned (OpenSpec.ofChange fnExactDropFormSpec)

/-- ITS FALSE NEIGHBOUR: 'it returns false'. Refute it at one input. -/
def fnExactDropFormWrong : ChangeSpec := { name := "fnExactDropForm", fn := fun _ => fun
  | [d] => { results := [.lit (.bool false)], args := [d] }
  | _ => none }
def FnExactDropFormWrongFalsely : Prop := fnExactDropFormRow.holds Tryz.pinned (OpenSpec.ofChange fnExactDropFormWrong)

/-- 'laws.FnExactBypassForm': WHATEVER THE INPUT: true; the input reads as it did. -/
def fnExactBypassFormSpec : ChangeSpec := { name := "fnExactBypassForm", fn := fun _ => fun
  | [d] => { results := [.lit (.bool true)], args := [d] }
  | _ => none }
def fnExactBypassFormRow : OpenClaim := { program := "ytiacgcpcgabdoaagreat", sum := "e02efdaa312cc302bf3027eab38c413b45500c72bcd15d1fa3e56c428b718f80", func := "loop.example/g00868/laws.FnExactBypassForm", spec := "fnExactBypassForm", unfollowed := true, recurses := true, apart := false }
def FnExactBypassFormSaid : Prop := fnExactBypassFormRow.holds Tryz.pinned (OpenSpec.ofChange fnExactBypassFormSpec)

/-- ITS FALSE NEIGHBOUR: 'it returns false'. Refute it at one input. -/
def fnExactBypassFormWrong : ChangeSpec := { name := "fnExactBypassForm", fn := fun _ => fun
  | [d] => { results := [.lit (.bool false)], args := [d] }
  | _ => none }
def FnExactBypassFormWrongFalsely : Prop := fnExactBypassFormRow.holds Tryz.pinned (OpenSpec.ofChange fnExactBypassFormWrong)

/-- 'laws.FnExactCanonOf': WHATEVER THE INPUT: true; the input reads as it did. -/
def fnExactCanonOfSpec : ChangeSpec := { name := "fnExactCanonOf", fn := fun _ => fun
  | [d] => { results := [.lit (.bool true)], args := [d] }
  | _ => none }
def fnExactCanonOfRow : OpenClaim := { program := "ytiacgcpcgabdoaagreat", sum := "e02efdaa312cc302bf3027eab38c413b45500c72bcd15d1fa3e56c428b718f80", func := "loop.example/g00868/laws.FnExactCanonOf", spec := "fnExactCanonOf", unfollowed := true, recurses := true, apart := false }
def FnExactCanonOfSaid : Prop := fnExactCanonOfRow.holds Tryz.pinned (OpenSpec.ofChange fnExactCanonOfSpec)

/-- ITS FALSE NEIGHBOUR: 'it returns false'. Refute it at one input. -/
def fnExactCanonOfWrong : ChangeSpec := { name := "fnExactCanonOf", fn := fun _ => fun
  | [d] => { results := [.lit (.bool false)], args := [d] }
  | _ => none }
def FnExactCanonOfWrongFalsely : Prop := fnExactCanonOfRow.holds Tryz.pinned (OpenSpec.ofChange fnExactCanonOfWrong)

/- THE SECOND FORM. 'bulk': how many values and letters a reading holds, each counted each time it is reached (what is shared counts as often as it is met; a slice's spare places count too). A statement '..UptoSaid' is the law's where the arguments, and the package variables that the reading takes, are together of bulk at most 1048576: NARROWER than '..Said'. Prove '..Said' where nothing that the law and all that it calls make is longer than what came in: it says more and counts as full. Else prove '..UptoSaid'. A law counts once. -/
mutual
def uptoBulk {H : Type} : DataW H → Nat
  | .lit (.string bytes) => bytes.length + 1
  | .lit _ => 1
  | .nil => 1
  | .ptr d => uptoBulk d + 1
  | .slice elems spare => uptoBulkAll elems + uptoBulkAll spare + 1
  | .agg parts => uptoBulkAll parts + 1
  | .iface _ d => uptoBulk d + 1
  | .map entries => uptoBulkEntries entries + 1
  | .held _ => 1
def uptoBulkAll {H : Type} : List (DataW H) → Nat
  | [] => 0
  | d :: r => uptoBulk d + uptoBulkAll r
def uptoBulkEntries {H : Type} : List (Lit × DataW H) → Nat
  | [] => 0
  | x :: r => uptoBulkEntry x + uptoBulkEntries r
def uptoBulkEntry {H : Type} : Lit × DataW H → Nat
  | (.string bytes, d) => bytes.length + uptoBulk d + 1
  | (_, d) => uptoBulk d + 1
 end
def uptoSmall : (H : Type) → List (DataW H) → Bool := fun _ ds => decide (uptoBulkAll ds ≤ 1048576)
def OpenSpec.upto (s : _root_.Go.ChangeSpec) : _root_.Go.OpenSpec := { _root_.Go.OpenSpec.ofChange s with cond := some uptoSmall }

/-- 'laws.FnNegOrder', WHERE WHAT IT READS IS OF BULK AT MOST 1048576: true; the input reads as it did. -/
def fnNegOrderUptoRow : OpenClaim := { program := "ytiacgcpcgabdoaagreat", sum := "e02efdaa312cc302bf3027eab38c413b45500c72bcd15d1fa3e56c428b718f80", func := "loop.example/g00868/laws.FnNegOrder", spec := "fnNegOrder", unfollowed := true, recurses := true, apart := false, narrowed := true }
def FnNegOrderUptoSaid : Prop := fnNegOrderUptoRow.holds Tryz.pinned (OpenSpec.upto fnNegOrderSpec)

/-- 'laws.FnExactDropForm', WHERE WHAT IT READS IS OF BULK AT MOST 1048576: true; the input reads as it did. -/
def fnExactDropFormUptoRow : OpenClaim := { program := "ytiacgcpcgabdoaagreat", sum := "e02efdaa312cc302bf3027eab38c413b45500c72bcd15d1fa3e56c428b718f80", func := "loop.example/g00868/laws.FnExactDropForm", spec := "fnExactDropForm", unfollowed := true, recurses := true, apart := false, narrowed := true }
def FnExactDropFormUptoSaid : Prop := fnExactDropFormUptoRow.holds Tryz.pinned (OpenSpec.upto fnExactDropFormSpec)

/-- 'laws.FnExactBypassForm', WHERE WHAT IT READS IS OF BULK AT MOST 1048576: true; the input reads as it did. -/
def fnExactBypassFormUptoRow : OpenClaim := { program := "ytiacgcpcgabdoaagreat", sum := "e02efdaa312cc302bf3027eab38c413b45500c72bcd15d1fa3e56c428b718f80", func := "loop.example/g00868/laws.FnExactBypassForm", spec := "fnExactBypassForm", unfollowed := true, recurses := true, apart := false, narrowed := true }
def FnExactBypassFormUptoSaid : Prop := fnExactBypassFormUptoRow.holds Tryz.pinned (OpenSpec.upto fnExactBypassFormSpec)

/-- 'laws.FnExactCanonOf', WHERE WHAT IT READS IS OF BULK AT MOST 1048576: true; the input reads as it did. -/
def fnExactCanonOfUptoRow : OpenClaim := { program := "ytiacgcpcgabdoaagreat", sum := "e02efdaa312cc302bf3027eab38c413b45500c72bcd15d1fa3e56c428b718f80", func := "loop.example/g00868/laws.FnExactCanonOf", spec := "fnExactCanonOf", unfollowed := true, recurses := true, apart := false, narrowed := true }
def FnExactCanonOfUptoSaid : Prop := fnExactCanonOfUptoRow.holds Tryz.pinned (OpenSpec.upto fnExactCanonOfSpec)

end Rows
end Go.Proofs.YtiacgcpcgabdoaaGreat
