/- The listed table of places is what the count of zeros asks for. -/
import Derived.Test.YtlblkmhiildgeaaDoorDyRed
import Derived.Lib.LaidTab
import Derived.Stop.LaidErr
namespace Go.Proofs.YtlblkmhiildgeaaDoor
open Go.RowKit

theorem gDeBr : Tryd.prog.globalNamed "math/bits.deBruijn64tab" = some 1 := by kernel_rfl
theorem gDeBrType : (Tryd.prog.globals[1]?).map (·.type) = some 97 := by kernel_rfl
theorem cellsDeBr : Tryd.prog.cellsOf 97 = 64 := by kernel_rfl
theorem cellsU8 : Tryd.prog.cellsOf 5 = 1 := by kernel_rfl
theorem datDeBr : (Rows.laid_math_bits_deBruijn64tab : DataW Unit) = Lib.tabData .u8 (Lib.deBruijn64tab.map fun (n : Nat) => (n : Int)) := by kernel_rfl

theorem cell_of_var {P : Program} {w : World} {n : String} {g : Nat} {cs : Array Value} (hg : P.globalNamed n = some g) (hv : w.var? P n = some cs) (j : Nat) : w.cell? ⟨g, j, none⟩ = cs[j]? := by
  unfold World.var? at hv
  simp only [hg, Option.bind_some] at hv
  unfold World.cell?
  cases hb : w.heap[g]? with
  | none => rw [hb] at hv; simp at hv
  | some o =>
    rw [hb] at hv
    cases o with
    | cells c e f =>
      simp at hv
      subst hv
      rfl
    | _ => simp at hv

theorem debr_of {W : World} {rest : List (String × DataW Unit)} (h : laidMet Tryd.prog (("math/bits.deBruijn64tab", Rows.laid_math_bits_deBruijn64tab) :: rest) W) : DeBr W := by
  rw [datDeBr] at h
  have ht := Lib.tabIs_of_head gDeBr gDeBrType Tryd.underlying97 Tryd.underlying5 cellsU8 cellsDeBr h
  intro j hj
  rw [cell_of_var gDeBr ht j]
  simp only [List.getElem?_toArray, List.getElem?_map, List.getElem?_eq_getElem hj, Option.map_some, List.getD_eq_getElem?_getD, Option.getD_some]

end Go.Proofs.YtlblkmhiildgeaaDoor
