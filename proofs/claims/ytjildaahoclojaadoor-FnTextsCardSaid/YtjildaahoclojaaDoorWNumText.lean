/- The walk of laws.FnExactNumText: both functions answer the same numeral. -/
import Derived.Test.YtjildaahoclojaaDoorNumS
import Derived.Test.YtjildaahoclojaaDoorNumI
namespace Go.Proofs.YtjildaahoclojaaDoor
open Go.RowKit

theorem Below.drewN {B : Nat} {a w : World} (h : Below B a w) (n : Nat) : Below B a (w.drewN n) := ⟨h.os, h.tape, h.output, h.size, h.block⟩

/-- a variable of integers reads as before, where nothing old has turned -/
theorem tabIs_below {w w' : World} {n : String} {g : Nat} {k : IntKind} {zs : List Int} (hg : Tryd.prog.globalNamed n = some g) (hlt : g < w.heap.size) (hb : Below w.heap.size w w') (h : Lib.TabIs Tryd.prog w n k zs) : Lib.TabIs Tryd.prog w' n k zs :=
  var?_below hb hg hlt h

set_option maxHeartbeats 400000 in
theorem fnExactNumText_walk (n : Int) (w : World) (htab : Lib.TabIs Tryd.prog w "internal/strconv.uint64pow10" .u64 Lib.pow10Tab) :
    Calls Tryd.prog 5 #[.int .i64 n] w fun e w' => e = .returned (.bool true) ∧ Below w.heap.size w w' := by
  by_cases h : n < -999999 ∨ 999999 < n
  · have H := Lib.hid h
    clear h htab
    go_enter Tryd.func5, Tryd.ntmps5
    go_wp2_with (first
      | (go_at_call 13; refine (numTextS_out _ _ H.out).mono ?_; rintro e w' ⟨rfl, rfl⟩)
      | (go_at_call 12; refine (numTextI_out _ _ H.out).mono ?_; rintro e w' ⟨rfl, rfl⟩))
    go_ret
    exact ⟨rfl, Below.refl _ _⟩
  · have h1 : -999999 ≤ n := by omega
    have h2 : n ≤ 999999 := by omega
    clear h
    have HT : ∀ m, Hid (Lib.TabIs Tryd.prog (w.drewN m) "internal/strconv.uint64pow10" .u64 Lib.pow10Tab) := fun m => Lib.hid htab
    clear htab
    go_enter Tryd.func5, Tryd.ntmps5
    go_wp2_with (first
      | (go_at_call 13; refine (numTextS_in _ _ h1 h2).mono ?_; rintro e w' ⟨rfl, m, rfl⟩)
      | (go_at_call 12; refine (numTextI_in _ _ h1 h2 (HT _).out).mono ?_; rintro e w' ⟨rfl, hb⟩))
    go_ret
    exact ⟨rfl, (Below.drewN (Below.refl _ _) _).trans hb⟩

end Go.Proofs.YtjildaahoclojaaDoor
