/- strconv.Atoi, at this translation: the number, or an error. -/
import Derived.Test.YtlblkmhiildgeaaDoorItoa
import Derived.Lib.AtoiErrMem
namespace Go.Proofs.YtlblkmhiildgeaaDoor
open Go.RowKit

/-- the two errors of strconv hold an error each -/
def ErrVars (w : World) : Prop :=
  (∃ tp p, w.var? Tryd.prog "strconv.ErrSyntax" = some #[.iface tp p]) ∧ (∃ tp p, w.var? Tryd.prog "strconv.ErrRange" = some #[.iface tp p])

/-- strconv.Atoi: the number, or an error. -/
theorem atoi_ok (s : ByteArray) (v : Int) (w : World) (hs : s.size ≤ 1048576) (h : Lib.atoiAll s.data.toList = .ok v) :
    Calls Tryd.prog 61 #[.string s] w fun e w' => e = .returned (.tuple #[.int .i64 v, .nilIface]) ∧ Below w.heap.size w w' := by
  refine (Tryd.strconv_Atoi_ok s (by omega) v h w).mono ?_
  rintro e w' ⟨he, hw⟩
  refine ⟨he, ?_⟩
  rcases hw with rfl | ⟨t, rfl⟩
  · exact Below.refl _ _
  · exact Lib.bytesWorld_below _ _ _

theorem atoi_no (s : ByteArray) (w : World) (hs : s.size ≤ 1048576) (hv : ErrVars w) (h : ∀ v, Lib.atoiAll s.data.toList ≠ .ok v) :
    Calls Tryd.prog 61 #[.string s] w fun e w' => ∃ n t N, e = .returned (.tuple #[.int .i64 n, .iface t (.pointer (some ⟨N, 0, none⟩))]) ∧ Below w.heap.size w w' := by
  obtain ⟨⟨t1, p1, h1⟩, ⟨t2, p2, h2⟩⟩ := hv
  match hc : Lib.atoiAll s.data.toList with
  | .ok v => exact absurd hc (h v)
  | .syntax =>
    refine (Tryd.strconv_Atoi_syntax_var s (by omega) hc t1 p1 w h1).mono ?_
    rintro e w' ⟨N, he, _, _, hb⟩
    exact ⟨_, _, N, he, hb⟩
  | .range =>
    refine (Tryd.strconv_Atoi_range_var s (by omega) hc t2 p2 w h2).mono ?_
    rintro e w' ⟨N, he, _, _, hb⟩
    exact ⟨_, _, N, he, hb⟩

theorem gErrSyntax : Tryd.prog.globalNamed "strconv.ErrSyntax" = some 3 := by kernel_rfl
theorem gErrRange : Tryd.prog.globalNamed "strconv.ErrRange" = some 4 := by kernel_rfl

theorem ErrVars.below {w W : World} (h : ErrVars w) (hb : Below w.heap.size w W) : ErrVars W := by
  obtain ⟨⟨t1, p1, h1⟩, ⟨t2, p2, h2⟩⟩ := h
  exact ⟨⟨t1, p1, var?_below hb gErrSyntax (var_lt gErrSyntax h1) h1⟩, ⟨t2, p2, var?_below hb gErrRange (var_lt gErrRange h2) h2⟩⟩

end Go.Proofs.YtlblkmhiildgeaaDoor
