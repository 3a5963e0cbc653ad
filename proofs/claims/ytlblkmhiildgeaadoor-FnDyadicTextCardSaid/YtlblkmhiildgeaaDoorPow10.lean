/- The listed table of powers of ten is what strconv's contracts ask for. -/
import Derived.Test.YtlblkmhiildgeaaDoorRows
import Derived.WalkKit
import Derived.Lib.LaidTab
import Derived.Lib.ItoaNum
import Derived.Stop.LaidErr
namespace Go.Proofs.YtlblkmhiildgeaaDoor
open Go.RowKit

theorem gPow10 : Tryd.prog.globalNamed "internal/strconv.uint64pow10" = some 5 := by kernel_rfl
theorem gPow10Type : (Tryd.prog.globals[5]?).map (·.type) = some 119 := by kernel_rfl
theorem cellsPow10 : Tryd.prog.cellsOf 119 = 20 := by kernel_rfl
theorem cellsU64 : Tryd.prog.cellsOf 51 = 1 := by kernel_rfl
theorem datPow10 : (Rows.laid_internal_strconv_uint64pow10 : DataW Unit) = Lib.tabData .u64 Lib.pow10Tab := by kernel_rfl

theorem pow10_of {W : World} {rest : List (String × DataW Unit)} (h : laidMet Tryd.prog (("internal/strconv.uint64pow10", Rows.laid_internal_strconv_uint64pow10) :: rest) W) :
    Lib.TabIs Tryd.prog W "internal/strconv.uint64pow10" .u64 Lib.pow10Tab := by
  rw [datPow10] at h
  exact Lib.tabIs_of_head gPow10 gPow10Type Tryd.underlying119 Tryd.underlying51 cellsU64 cellsPow10 h

end Go.Proofs.YtlblkmhiildgeaaDoor
