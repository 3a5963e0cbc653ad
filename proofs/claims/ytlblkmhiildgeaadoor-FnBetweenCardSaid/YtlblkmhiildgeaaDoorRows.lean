/-
  NARROWER THAN 'FOR EVERY INPUT', by the rows' own cells (each row's printed sentence says how): FnDyadic: laid · FnBetween: laid · FnDyadicText: laid · FnExactMakeDyadic: laid · FnExactAddDyadic: laid · FnExactHalfOf: laid · FnExactSimplestBetween: laid · FnExactDyadicText: laid.
  DERIVED. THE GIVEN ROWS OF THIS SEAT. 8 by the template 'for every input the law returns true; each argument reads behind the call as it read before'; 0 by the template 'total and deterministic' (their statements: YtlblkmhiildgeaaDoorTotals.lean).
  GIVEN WITH THE SEED: the statements are not yours to turn. If you find one false, say at which input.
  Laid BY PROGRAM, IN A SANDBOX (cutbox-rows.mjs): the forced cells as the released guide's own fill.sh prints them over the translation da4ef0cdf52e6c3f… (all of the seat's roots in one cut). By AI agents, Wed Nov 11 2026. No macro, syntax, notation, axiom, sorry.
-/
import Derived.Test.YtlblkmhiildgeaaDoorChecked
import GoSem.Claim
import GoSem.ClaimJoined
import GoSem.ClaimMapViews
import Derived.JoinedTies
import Derived.KernelRfl
namespace Go.Proofs.YtlblkmhiildgeaaDoor
/- THE CELL 'sum', in the pinned program and in every row, IS THE sha256 OF THE DUMP (.gsa) THAT YtlblkmhiildgeaaDoorProg.lean LOADS. Nothing in Lean hashes anything: it is a label: what it is worth is what the hold of that sum in a sandbox is worth. -/
noncomputable def Tryd.pinned : Pinned := { name := "ytlblkmhiildgeaadoor", sum := "da4ef0cdf52e6c3f4583bf8a2cadcb248ab08ba2644a812bc2f4538d3df116af", checked := Tryd.checked }
namespace Rows
def none {H : Type} : Left H := { results := [], args := [] }

/- WHAT THE LISTED PACKAGE-LEVEL VARIABLES READ AS WHEN THE CALL BEGINS. Each datum BY PROGRAM (the guide's laid-datum.mjs) off the statement by which the dump's own 'gosem.cut.vars' lays the variable. In a bare row this is a premise. The card (YtlblkmhiildgeaaDoorCards.lean) ties it to the program's text. -/
def laid_math_bits_deBruijn32tab {H : Type} : DataW H := .agg [.lit (.int .u8 0), .lit (.int .u8 1), .lit (.int .u8 28), .lit (.int .u8 2), .lit (.int .u8 29), .lit (.int .u8 14), .lit (.int .u8 24), .lit (.int .u8 3), .lit (.int .u8 30), .lit (.int .u8 22), .lit (.int .u8 20), .lit (.int .u8 15), .lit (.int .u8 25), .lit (.int .u8 17), .lit (.int .u8 4), .lit (.int .u8 8), .lit (.int .u8 31), .lit (.int .u8 27), .lit (.int .u8 13), .lit (.int .u8 23), .lit (.int .u8 21), .lit (.int .u8 19), .lit (.int .u8 16), .lit (.int .u8 7), .lit (.int .u8 26), .lit (.int .u8 12), .lit (.int .u8 18), .lit (.int .u8 6), .lit (.int .u8 11), .lit (.int .u8 5), .lit (.int .u8 10), .lit (.int .u8 9)]
def laid_math_bits_deBruijn64tab {H : Type} : DataW H := .agg [.lit (.int .u8 0), .lit (.int .u8 1), .lit (.int .u8 56), .lit (.int .u8 2), .lit (.int .u8 57), .lit (.int .u8 49), .lit (.int .u8 28), .lit (.int .u8 3), .lit (.int .u8 61), .lit (.int .u8 58), .lit (.int .u8 42), .lit (.int .u8 50), .lit (.int .u8 38), .lit (.int .u8 29), .lit (.int .u8 17), .lit (.int .u8 4), .lit (.int .u8 62), .lit (.int .u8 47), .lit (.int .u8 59), .lit (.int .u8 36), .lit (.int .u8 45), .lit (.int .u8 43), .lit (.int .u8 51), .lit (.int .u8 22), .lit (.int .u8 53), .lit (.int .u8 39), .lit (.int .u8 33), .lit (.int .u8 30), .lit (.int .u8 24), .lit (.int .u8 18), .lit (.int .u8 12), .lit (.int .u8 5), .lit (.int .u8 63), .lit (.int .u8 55), .lit (.int .u8 48), .lit (.int .u8 27), .lit (.int .u8 60), .lit (.int .u8 41), .lit (.int .u8 37), .lit (.int .u8 16), .lit (.int .u8 46), .lit (.int .u8 35), .lit (.int .u8 44), .lit (.int .u8 21), .lit (.int .u8 52), .lit (.int .u8 32), .lit (.int .u8 23), .lit (.int .u8 11), .lit (.int .u8 54), .lit (.int .u8 26), .lit (.int .u8 40), .lit (.int .u8 15), .lit (.int .u8 34), .lit (.int .u8 20), .lit (.int .u8 31), .lit (.int .u8 10), .lit (.int .u8 25), .lit (.int .u8 14), .lit (.int .u8 19), .lit (.int .u8 9), .lit (.int .u8 13), .lit (.int .u8 8), .lit (.int .u8 7), .lit (.int .u8 6)]
def laid_internal_strconv_uint64pow10 {H : Type} : DataW H := .agg [.lit (.int .u64 1), .lit (.int .u64 10), .lit (.int .u64 100), .lit (.int .u64 1000), .lit (.int .u64 10000), .lit (.int .u64 100000), .lit (.int .u64 1000000), .lit (.int .u64 10000000), .lit (.int .u64 100000000), .lit (.int .u64 1000000000), .lit (.int .u64 10000000000), .lit (.int .u64 100000000000), .lit (.int .u64 1000000000000), .lit (.int .u64 10000000000000), .lit (.int .u64 100000000000000), .lit (.int .u64 1000000000000000), .lit (.int .u64 10000000000000000), .lit (.int .u64 100000000000000000), .lit (.int .u64 1000000000000000000), .lit (.int .u64 10000000000000000000)]
def laid_strconv_ErrRange {H : Type} : DataW H := .iface "*errors.errorString" (.ptr (.agg [.lit (.string [118, 97, 108, 117, 101, 32, 111, 117, 116, 32, 111, 102, 32, 114, 97, 110, 103, 101])]))
def laid_strconv_ErrSyntax {H : Type} : DataW H := .iface "*errors.errorString" (.ptr (.agg [.lit (.string [105, 110, 118, 97, 108, 105, 100, 32, 115, 121, 110, 116, 97, 120])]))

/-- 'laws.FnDyadic': WHATEVER THE INPUT: true; the input reads as it did. -/
def fnDyadicSpec : ChangeSpec := { name := "fnDyadic", fn := fun _ => fun
  | [d] => { results := [.lit (.bool true)], args := [d] }
  | _ => none }
def fnDyadicRow : OpenClaim := { program := "ytlblkmhiildgeaadoor", sum := "da4ef0cdf52e6c3f4583bf8a2cadcb248ab08ba2644a812bc2f4538d3df116af", func := "loop.example/g00868/laws.FnDyadic", spec := "fnDyadic", unfollowed := true, recurses := true, named := ["math/bits.deBruijn32tab", "math/bits.deBruijn64tab"], apart := false, laid := [("math/bits.deBruijn32tab", laid_math_bits_deBruijn32tab), ("math/bits.deBruijn64tab", laid_math_bits_deBruijn64tab)] }
def FnDyadicSaid : Prop := fnDyadicRow.holds Tryd.pinned (OpenSpec.ofChange fnDyadicSpec)

/-- ITS FALSE NEIGHBOUR: 'it returns false'. Refute it at one input. -/
def fnDyadicWrong : ChangeSpec := { name := "fnDyadic", fn := fun _ => fun
  | [d] => { results := [.lit (.bool false)], args := [d] }
  | _ => none }
def FnDyadicWrongFalsely : Prop := fnDyadicRow.holds Tryd.pinned (OpenSpec.ofChange fnDyadicWrong)

/-- 'laws.FnBetween': WHATEVER THE INPUT: true; the input reads as it did. -/
def fnBetweenSpec : ChangeSpec := { name := "fnBetween", fn := fun _ => fun
  | [d] => { results := [.lit (.bool true)], args := [d] }
  | _ => none }
def fnBetweenRow : OpenClaim := { program := "ytlblkmhiildgeaadoor", sum := "da4ef0cdf52e6c3f4583bf8a2cadcb248ab08ba2644a812bc2f4538d3df116af", func := "loop.example/g00868/laws.FnBetween", spec := "fnBetween", unfollowed := true, recurses := true, named := ["math/bits.deBruijn32tab", "math/bits.deBruijn64tab"], apart := false, laid := [("math/bits.deBruijn32tab", laid_math_bits_deBruijn32tab), ("math/bits.deBruijn64tab", laid_math_bits_deBruijn64tab)] }
def FnBetweenSaid : Prop := fnBetweenRow.holds Tryd.pinned (OpenSpec.ofChange fnBetweenSpec)

/-- ITS FALSE NEIGHBOUR: 'it returns false'. Refute it at one input. -/
def fnBetweenWrong : ChangeSpec := { name := "fnBetween", fn := fun _ => fun
  | [d] => { results := [.lit (.bool false)], args := [d] }
  | _ => none }
def FnBetweenWrongFalsely : Prop := fnBetweenRow.holds Tryd.pinned (OpenSpec.ofChange fnBetweenWrong)

/-- 'laws.FnDyadicText': WHATEVER THE INPUT: true; the input reads as it did. -/
def fnDyadicTextSpec : ChangeSpec := { name := "fnDyadicText", fn := fun _ => fun
  | [d] => { results := [.lit (.bool true)], args := [d] }
  | _ => none }
def fnDyadicTextRow : OpenClaim := { program := "ytlblkmhiildgeaadoor", sum := "da4ef0cdf52e6c3f4583bf8a2cadcb248ab08ba2644a812bc2f4538d3df116af", func := "loop.example/g00868/laws.FnDyadicText", spec := "fnDyadicText", inPlace := ["internal/bytealg.IndexByteString", "internal/bytealg.IndexString"], unfollowed := true, recurses := true, named := ["internal/strconv.uint64pow10", "math/bits.deBruijn32tab", "math/bits.deBruijn64tab", "internal/bytealg.MaxLen", "strconv.ErrSyntax", "strconv.ErrRange"], apart := false, laid := [("math/bits.deBruijn32tab", laid_math_bits_deBruijn32tab), ("math/bits.deBruijn64tab", laid_math_bits_deBruijn64tab), ("internal/strconv.uint64pow10", laid_internal_strconv_uint64pow10), ("strconv.ErrRange", laid_strconv_ErrRange), ("strconv.ErrSyntax", laid_strconv_ErrSyntax)] }
def FnDyadicTextSaid : Prop := fnDyadicTextRow.holds Tryd.pinned (OpenSpec.ofChange fnDyadicTextSpec)

/-- ITS FALSE NEIGHBOUR: 'it returns false'. Refute it at one input. -/
def fnDyadicTextWrong : ChangeSpec := { name := "fnDyadicText", fn := fun _ => fun
  | [d] => { results := [.lit (.bool false)], args := [d] }
  | _ => none }
def FnDyadicTextWrongFalsely : Prop := fnDyadicTextRow.holds Tryd.pinned (OpenSpec.ofChange fnDyadicTextWrong)

/-- 'laws.FnExactMakeDyadic': WHATEVER THE INPUT: true; the input reads as it did. -/
def fnExactMakeDyadicSpec : ChangeSpec := { name := "fnExactMakeDyadic", fn := fun _ => fun
  | [d1, d2] => { results := [.lit (.bool true)], args := [d1, d2] }
  | _ => none }
def fnExactMakeDyadicRow : OpenClaim := { program := "ytlblkmhiildgeaadoor", sum := "da4ef0cdf52e6c3f4583bf8a2cadcb248ab08ba2644a812bc2f4538d3df116af", func := "loop.example/g00868/laws.FnExactMakeDyadic", spec := "fnExactMakeDyadic", named := ["math/bits.deBruijn32tab", "math/bits.deBruijn64tab"], apart := false, laid := [("math/bits.deBruijn32tab", laid_math_bits_deBruijn32tab), ("math/bits.deBruijn64tab", laid_math_bits_deBruijn64tab)] }
def FnExactMakeDyadicSaid : Prop := fnExactMakeDyadicRow.holds Tryd.pinned (OpenSpec.ofChange fnExactMakeDyadicSpec)

/-- ITS FALSE NEIGHBOUR: 'it returns false'. Refute it at one input. -/
def fnExactMakeDyadicWrong : ChangeSpec := { name := "fnExactMakeDyadic", fn := fun _ => fun
  | [d1, d2] => { results := [.lit (.bool false)], args := [d1, d2] }
  | _ => none }
def FnExactMakeDyadicWrongFalsely : Prop := fnExactMakeDyadicRow.holds Tryd.pinned (OpenSpec.ofChange fnExactMakeDyadicWrong)

/-- 'laws.FnExactAddDyadic': WHATEVER THE INPUT: true; the input reads as it did. -/
def fnExactAddDyadicSpec : ChangeSpec := { name := "fnExactAddDyadic", fn := fun _ => fun
  | [d1, d2] => { results := [.lit (.bool true)], args := [d1, d2] }
  | _ => none }
def fnExactAddDyadicRow : OpenClaim := { program := "ytlblkmhiildgeaadoor", sum := "da4ef0cdf52e6c3f4583bf8a2cadcb248ab08ba2644a812bc2f4538d3df116af", func := "loop.example/g00868/laws.FnExactAddDyadic", spec := "fnExactAddDyadic", named := ["math/bits.deBruijn32tab", "math/bits.deBruijn64tab"], apart := false, laid := [("math/bits.deBruijn32tab", laid_math_bits_deBruijn32tab), ("math/bits.deBruijn64tab", laid_math_bits_deBruijn64tab)] }
def FnExactAddDyadicSaid : Prop := fnExactAddDyadicRow.holds Tryd.pinned (OpenSpec.ofChange fnExactAddDyadicSpec)

/-- ITS FALSE NEIGHBOUR: 'it returns false'. Refute it at one input. -/
def fnExactAddDyadicWrong : ChangeSpec := { name := "fnExactAddDyadic", fn := fun _ => fun
  | [d1, d2] => { results := [.lit (.bool false)], args := [d1, d2] }
  | _ => none }
def FnExactAddDyadicWrongFalsely : Prop := fnExactAddDyadicRow.holds Tryd.pinned (OpenSpec.ofChange fnExactAddDyadicWrong)

/-- 'laws.FnExactHalfOf': WHATEVER THE INPUT: true; the input reads as it did. -/
def fnExactHalfOfSpec : ChangeSpec := { name := "fnExactHalfOf", fn := fun _ => fun
  | [d] => { results := [.lit (.bool true)], args := [d] }
  | _ => none }
def fnExactHalfOfRow : OpenClaim := { program := "ytlblkmhiildgeaadoor", sum := "da4ef0cdf52e6c3f4583bf8a2cadcb248ab08ba2644a812bc2f4538d3df116af", func := "loop.example/g00868/laws.FnExactHalfOf", spec := "fnExactHalfOf", named := ["math/bits.deBruijn32tab", "math/bits.deBruijn64tab"], apart := false, laid := [("math/bits.deBruijn32tab", laid_math_bits_deBruijn32tab), ("math/bits.deBruijn64tab", laid_math_bits_deBruijn64tab)] }
def FnExactHalfOfSaid : Prop := fnExactHalfOfRow.holds Tryd.pinned (OpenSpec.ofChange fnExactHalfOfSpec)

/-- ITS FALSE NEIGHBOUR: 'it returns false'. Refute it at one input. -/
def fnExactHalfOfWrong : ChangeSpec := { name := "fnExactHalfOf", fn := fun _ => fun
  | [d] => { results := [.lit (.bool false)], args := [d] }
  | _ => none }
def FnExactHalfOfWrongFalsely : Prop := fnExactHalfOfRow.holds Tryd.pinned (OpenSpec.ofChange fnExactHalfOfWrong)

/-- 'laws.FnExactSimplestBetween': WHATEVER THE INPUT: true; the input reads as it did. -/
def fnExactSimplestBetweenSpec : ChangeSpec := { name := "fnExactSimplestBetween", fn := fun _ => fun
  | [d1, d2] => { results := [.lit (.bool true)], args := [d1, d2] }
  | _ => none }
def fnExactSimplestBetweenRow : OpenClaim := { program := "ytlblkmhiildgeaadoor", sum := "da4ef0cdf52e6c3f4583bf8a2cadcb248ab08ba2644a812bc2f4538d3df116af", func := "loop.example/g00868/laws.FnExactSimplestBetween", spec := "fnExactSimplestBetween", recurses := true, named := ["math/bits.deBruijn32tab", "math/bits.deBruijn64tab"], apart := false, laid := [("math/bits.deBruijn32tab", laid_math_bits_deBruijn32tab), ("math/bits.deBruijn64tab", laid_math_bits_deBruijn64tab)] }
def FnExactSimplestBetweenSaid : Prop := fnExactSimplestBetweenRow.holds Tryd.pinned (OpenSpec.ofChange fnExactSimplestBetweenSpec)

/-- ITS FALSE NEIGHBOUR: 'it returns false'. Refute it at one input. -/
def fnExactSimplestBetweenWrong : ChangeSpec := { name := "fnExactSimplestBetween", fn := fun _ => fun
  | [d1, d2] => { results := [.lit (.bool false)], args := [d1, d2] }
  | _ => none }
def FnExactSimplestBetweenWrongFalsely : Prop := fnExactSimplestBetweenRow.holds Tryd.pinned (OpenSpec.ofChange fnExactSimplestBetweenWrong)

/-- 'laws.FnExactDyadicText': WHATEVER THE INPUT: true; the input reads as it did. -/
def fnExactDyadicTextSpec : ChangeSpec := { name := "fnExactDyadicText", fn := fun _ => fun
  | [d] => { results := [.lit (.bool true)], args := [d] }
  | _ => none }
def fnExactDyadicTextRow : OpenClaim := { program := "ytlblkmhiildgeaadoor", sum := "da4ef0cdf52e6c3f4583bf8a2cadcb248ab08ba2644a812bc2f4538d3df116af", func := "loop.example/g00868/laws.FnExactDyadicText", spec := "fnExactDyadicText", unfollowed := true, recurses := true, named := ["internal/strconv.uint64pow10", "math/bits.deBruijn32tab", "math/bits.deBruijn64tab"], apart := false, laid := [("math/bits.deBruijn32tab", laid_math_bits_deBruijn32tab), ("math/bits.deBruijn64tab", laid_math_bits_deBruijn64tab), ("internal/strconv.uint64pow10", laid_internal_strconv_uint64pow10)] }
def FnExactDyadicTextSaid : Prop := fnExactDyadicTextRow.holds Tryd.pinned (OpenSpec.ofChange fnExactDyadicTextSpec)

/-- ITS FALSE NEIGHBOUR: 'it returns false'. Refute it at one input. -/
def fnExactDyadicTextWrong : ChangeSpec := { name := "fnExactDyadicText", fn := fun _ => fun
  | [d] => { results := [.lit (.bool false)], args := [d] }
  | _ => none }
def FnExactDyadicTextWrongFalsely : Prop := fnExactDyadicTextRow.holds Tryd.pinned (OpenSpec.ofChange fnExactDyadicTextWrong)

/- THE SECOND FORM. 'bulk': how many values and letters a reading holds, each counted each time it is reached (what is shared counts as often as it is met; a slice's spare places count too). A statement '..UptoSaid' is the law's where the arguments, and the package variables that the reading takes, are together of bulk at most 1048576: NARROWER than '..Said'. Prove '..Said' where nothing that the law and all that it calls make is longer than what came in: it says more and counts as full. Else prove '..UptoSaid'. A law counts once. -/
mutual
def uptoBulk {H : Type} : DataW H → Nat
  | .lit (.string bytes) => bytes.length + 1
  | .lit _ => 1
  | .nil => 1
  | .ptr d => uptoBulk d + 1
  | .slice elems spare => uptoBulkAll elems + uptoBulkAll spare + 1
  | .agg parts => uptoBulkAll parts + 1
  | .iface _ d => uptoBulk d + 1
  | .map entries => uptoBulkEntries entries + 1
  | .held _ => 1
def uptoBulkAll {H : Type} : List (DataW H) → Nat
  | [] => 0
  | d :: r => uptoBulk d + uptoBulkAll r
def uptoBulkEntries {H : Type} : List (Lit × DataW H) → Nat
  | [] => 0
  | x :: r => uptoBulkEntry x + uptoBulkEntries r
def uptoBulkEntry {H : Type} : Lit × DataW H → Nat
  | (.string bytes, d) => bytes.length + uptoBulk d + 1
  | (_, d) => uptoBulk d + 1
 end
def uptoSmall : (H : Type) → List (DataW H) → Bool := fun _ ds => decide (uptoBulkAll ds ≤ 1048576)
def OpenSpec.upto (s : _root_.Go.ChangeSpec) : _root_.Go.OpenSpec := { _root_.Go.OpenSpec.ofChange s with cond := some uptoSmall }

/-- 'laws.FnDyadic', WHERE WHAT IT READS IS OF BULK AT MOST 1048576: true; the input reads as it did. -/
def fnDyadicUptoRow : OpenClaim := { program := "ytlblkmhiildgeaadoor", sum := "da4ef0cdf52e6c3f4583bf8a2cadcb248ab08ba2644a812bc2f4538d3df116af", func := "loop.example/g00868/laws.FnDyadic", spec := "fnDyadic", unfollowed := true, recurses := true, named := ["math/bits.deBruijn32tab", "math/bits.deBruijn64tab"], apart := false, laid := [("math/bits.deBruijn32tab", laid_math_bits_deBruijn32tab), ("math/bits.deBruijn64tab", laid_math_bits_deBruijn64tab)], narrowed := true }
def FnDyadicUptoSaid : Prop := fnDyadicUptoRow.holds Tryd.pinned (OpenSpec.upto fnDyadicSpec)

/-- 'laws.FnBetween', WHERE WHAT IT READS IS OF BULK AT MOST 1048576: true; the input reads as it did. -/
def fnBetweenUptoRow : OpenClaim := { program := "ytlblkmhiildgeaadoor", sum := "da4ef0cdf52e6c3f4583bf8a2cadcb248ab08ba2644a812bc2f4538d3df116af", func := "loop.example/g00868/laws.FnBetween", spec := "fnBetween", unfollowed := true, recurses := true, named := ["math/bits.deBruijn32tab", "math/bits.deBruijn64tab"], apart := false, laid := [("math/bits.deBruijn32tab", laid_math_bits_deBruijn32tab), ("math/bits.deBruijn64tab", laid_math_bits_deBruijn64tab)], narrowed := true }
def FnBetweenUptoSaid : Prop := fnBetweenUptoRow.holds Tryd.pinned (OpenSpec.upto fnBetweenSpec)

/-- 'laws.FnDyadicText', WHERE WHAT IT READS IS OF BULK AT MOST 1048576: true; the input reads as it did. -/
def fnDyadicTextUptoRow : OpenClaim := { program := "ytlblkmhiildgeaadoor", sum := "da4ef0cdf52e6c3f4583bf8a2cadcb248ab08ba2644a812bc2f4538d3df116af", func := "loop.example/g00868/laws.FnDyadicText", spec := "fnDyadicText", inPlace := ["internal/bytealg.IndexByteString", "internal/bytealg.IndexString"], unfollowed := true, recurses := true, named := ["internal/strconv.uint64pow10", "math/bits.deBruijn32tab", "math/bits.deBruijn64tab", "internal/bytealg.MaxLen", "strconv.ErrSyntax", "strconv.ErrRange"], apart := false, laid := [("math/bits.deBruijn32tab", laid_math_bits_deBruijn32tab), ("math/bits.deBruijn64tab", laid_math_bits_deBruijn64tab), ("internal/strconv.uint64pow10", laid_internal_strconv_uint64pow10), ("strconv.ErrRange", laid_strconv_ErrRange), ("strconv.ErrSyntax", laid_strconv_ErrSyntax)], narrowed := true }
def FnDyadicTextUptoSaid : Prop := fnDyadicTextUptoRow.holds Tryd.pinned (OpenSpec.upto fnDyadicTextSpec)

/-- 'laws.FnExactMakeDyadic', WHERE WHAT IT READS IS OF BULK AT MOST 1048576: true; the input reads as it did. -/
def fnExactMakeDyadicUptoRow : OpenClaim := { program := "ytlblkmhiildgeaadoor", sum := "da4ef0cdf52e6c3f4583bf8a2cadcb248ab08ba2644a812bc2f4538d3df116af", func := "loop.example/g00868/laws.FnExactMakeDyadic", spec := "fnExactMakeDyadic", named := ["math/bits.deBruijn32tab", "math/bits.deBruijn64tab"], apart := false, laid := [("math/bits.deBruijn32tab", laid_math_bits_deBruijn32tab), ("math/bits.deBruijn64tab", laid_math_bits_deBruijn64tab)], narrowed := true }
def FnExactMakeDyadicUptoSaid : Prop := fnExactMakeDyadicUptoRow.holds Tryd.pinned (OpenSpec.upto fnExactMakeDyadicSpec)

/-- 'laws.FnExactAddDyadic', WHERE WHAT IT READS IS OF BULK AT MOST 1048576: true; the input reads as it did. -/
def fnExactAddDyadicUptoRow : OpenClaim := { program := "ytlblkmhiildgeaadoor", sum := "da4ef0cdf52e6c3f4583bf8a2cadcb248ab08ba2644a812bc2f4538d3df116af", func := "loop.example/g00868/laws.FnExactAddDyadic", spec := "fnExactAddDyadic", named := ["math/bits.deBruijn32tab", "math/bits.deBruijn64tab"], apart := false, laid := [("math/bits.deBruijn32tab", laid_math_bits_deBruijn32tab), ("math/bits.deBruijn64tab", laid_math_bits_deBruijn64tab)], narrowed := true }
def FnExactAddDyadicUptoSaid : Prop := fnExactAddDyadicUptoRow.holds Tryd.pinned (OpenSpec.upto fnExactAddDyadicSpec)

/-- 'laws.FnExactHalfOf', WHERE WHAT IT READS IS OF BULK AT MOST 1048576: true; the input reads as it did. -/
def fnExactHalfOfUptoRow : OpenClaim := { program := "ytlblkmhiildgeaadoor", sum := "da4ef0cdf52e6c3f4583bf8a2cadcb248ab08ba2644a812bc2f4538d3df116af", func := "loop.example/g00868/laws.FnExactHalfOf", spec := "fnExactHalfOf", named := ["math/bits.deBruijn32tab", "math/bits.deBruijn64tab"], apart := false, laid := [("math/bits.deBruijn32tab", laid_math_bits_deBruijn32tab), ("math/bits.deBruijn64tab", laid_math_bits_deBruijn64tab)], narrowed := true }
def FnExactHalfOfUptoSaid : Prop := fnExactHalfOfUptoRow.holds Tryd.pinned (OpenSpec.upto fnExactHalfOfSpec)

/-- 'laws.FnExactSimplestBetween', WHERE WHAT IT READS IS OF BULK AT MOST 1048576: true; the input reads as it did. -/
def fnExactSimplestBetweenUptoRow : OpenClaim := { program := "ytlblkmhiildgeaadoor", sum := "da4ef0cdf52e6c3f4583bf8a2cadcb248ab08ba2644a812bc2f4538d3df116af", func := "loop.example/g00868/laws.FnExactSimplestBetween", spec := "fnExactSimplestBetween", recurses := true, named := ["math/bits.deBruijn32tab", "math/bits.deBruijn64tab"], apart := false, laid := [("math/bits.deBruijn32tab", laid_math_bits_deBruijn32tab), ("math/bits.deBruijn64tab", laid_math_bits_deBruijn64tab)], narrowed := true }
def FnExactSimplestBetweenUptoSaid : Prop := fnExactSimplestBetweenUptoRow.holds Tryd.pinned (OpenSpec.upto fnExactSimplestBetweenSpec)

/-- 'laws.FnExactDyadicText', WHERE WHAT IT READS IS OF BULK AT MOST 1048576: true; the input reads as it did. -/
def fnExactDyadicTextUptoRow : OpenClaim := { program := "ytlblkmhiildgeaadoor", sum := "da4ef0cdf52e6c3f4583bf8a2cadcb248ab08ba2644a812bc2f4538d3df116af", func := "loop.example/g00868/laws.FnExactDyadicText", spec := "fnExactDyadicText", unfollowed := true, recurses := true, named := ["internal/strconv.uint64pow10", "math/bits.deBruijn32tab", "math/bits.deBruijn64tab"], apart := false, laid := [("math/bits.deBruijn32tab", laid_math_bits_deBruijn32tab), ("math/bits.deBruijn64tab", laid_math_bits_deBruijn64tab), ("internal/strconv.uint64pow10", laid_internal_strconv_uint64pow10)], narrowed := true }
def FnExactDyadicTextUptoSaid : Prop := fnExactDyadicTextUptoRow.holds Tryd.pinned (OpenSpec.upto fnExactDyadicTextSpec)

end Rows
end Go.Proofs.YtlblkmhiildgeaaDoor
