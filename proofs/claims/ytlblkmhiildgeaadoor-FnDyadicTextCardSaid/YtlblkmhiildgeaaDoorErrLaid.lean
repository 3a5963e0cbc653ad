/- The two listed errors of strconv hold an error each. -/
import Derived.Test.YtlblkmhiildgeaaDoorAtoi
import Derived.Stop.LaidErr
import Derived.Stop.ErrReads
namespace Go.Proofs.YtlblkmhiildgeaaDoor
open Go.RowKit

theorem starErr : "*" ++ "errors.errorString" = "*errors.errorString" := by decide
theorem rowErr (u : TypeId) (h : Tryd.prog.typeName? 3 u = some "*errors.errorString") : u = 115 :=
  typeName_ptr_named (nm := "errors.errorString") (by rw [starErr]; kernel_rfl) (by kernel_rfl) (by decide) u (by rw [starErr]; exact h)
theorem cellsErr : Tryd.prog.cellsOf 117 = 1 := by kernel_rfl
theorem cellsStr : Tryd.prog.cellsOf 9 = 1 := by kernel_rfl

theorem errRange_of {W : World} {r : List (String × DataW Unit)} (h : laidMet Tryd.prog (("strconv.ErrRange", Rows.laid_strconv_ErrRange) :: r) W) : ∃ tp p, W.var? Tryd.prog "strconv.ErrRange" = some #[.iface tp p] := by
  obtain ⟨a, s, hv, _⟩ := laid_sentinel (g := 4) h (by kernel_rfl) (by kernel_rfl) Tryd.underlying76 rowErr Tryd.underlying115 Tryd.underlying117 rfl rfl Tryd.underlying9 cellsErr cellsStr
  exact ⟨_, _, hv⟩

theorem errSyntax_of {W : World} {r : List (String × DataW Unit)} (h : laidMet Tryd.prog (("strconv.ErrSyntax", Rows.laid_strconv_ErrSyntax) :: r) W) : ∃ tp p, W.var? Tryd.prog "strconv.ErrSyntax" = some #[.iface tp p] := by
  obtain ⟨a, s, hv, _⟩ := laid_sentinel (g := 3) h (by kernel_rfl) (by kernel_rfl) Tryd.underlying76 rowErr Tryd.underlying115 Tryd.underlying117 rfl rfl Tryd.underlying9 cellsErr cellsStr
  exact ⟨_, _, hv⟩

end Go.Proofs.YtlblkmhiildgeaaDoor
