/- The walk of laws.FnExactReadNum: both functions read the same. -/
import Derived.Test.YtjildaahoclojaaDoorReadI
import Derived.Test.YtjildaahoclojaaDoorWOpenText
namespace Go.Proofs.YtjildaahoclojaaDoor
open Go.RowKit

theorem readTo_unique {l : List UInt8} {n k : Int} {b c : Bool} (h : ReadTo l (.returned (.tuple #[.int .i64 n, .bool b]))) (h' : ReadTo l (.returned (.tuple #[.int .i64 k, .bool c]))) : k = n ∧ c = b := by
  rcases h with ⟨n1, a1, a2, a3, a4⟩ | ⟨a1, a2⟩ <;> rcases h' with ⟨k1, b1, b2, b3, b4⟩ | ⟨b1, b2⟩
  · simp at a4 b4
    have := itoa_inj a1 a2 b1 b2 (a3.trans b3.symm)
    exact ⟨by omega, by rw [a4.2, b4.2]⟩
  · exact absurd a3 (b1 n1 a1 a2)
  · exact absurd b3 (a1 k1 b1 b2)
  · simp at a2 b2
    exact ⟨by omega, by rw [a2.2, b2.2]⟩

set_option maxHeartbeats 400000 in
theorem fnExactReadNum_walk (s : ByteArray) (hs : s.size ≤ maxLen) (w : World) (hv : ErrVars w) (hg : Tryd.prog.globalNamed "internal/strconv.uint64pow10" = some 3)
    (htab : Lib.TabIs Tryd.prog w "internal/strconv.uint64pow10" .u64 Lib.pow10Tab) :
    Calls Tryd.prog 6 #[.string s] w fun e w' => e = .returned (.bool true) ∧ Below w.heap.size w w' := by
  unfold maxLen at hs
  by_cases hA : (1048576 : Nat) < s.size
  · clear hv htab hg
    go_enter Tryd.func6, Tryd.ntmps6
    go_wp2_with fail
    go_ret
    exact ⟨rfl, Below.refl _ _⟩
  · have H1 := Lib.hid (readNumS_calls s w (by omega))
    have H2 : ∀ m, Hid (Calls Tryd.prog 15 #[.string s] (w.drewN m) fun e w' => ReadTo s.data.toList e ∧ Below (w.drewN m).heap.size (w.drewN m) w') := fun m =>
      Lib.hid (readNumI_calls s (w.drewN m) (by omega) hv hg (tabPow_lt htab hg) htab)
    clear hv htab hg
    go_enter Tryd.func6, Tryd.ntmps6
    go_wp2_with fail
    refine H1.out.mono ?_
    rintro e w1 ⟨hr, m, rfl⟩
    obtain ⟨n, b, rfl, hr2⟩ := readTo_pair hr
    have HR := Lib.hid hr2
    clear hr hr2
    go_wp2_with fail
    refine (H2 m).out.mono ?_
    rintro e w2 ⟨hr, hb⟩
    obtain ⟨k, c, rfl, hr2⟩ := readTo_pair hr
    obtain ⟨e1, e2⟩ := readTo_unique HR.out hr2
    have HB : Hid (Below w.heap.size w w2) := Lib.hid ⟨hb.os, hb.tape, hb.output, hb.size, hb.block⟩
    clear hr hr2 hb HR
    subst e1 e2
    go_wp2_with fail
    go_ret
    exact ⟨rfl, HB.out⟩

end Go.Proofs.YtjildaahoclojaaDoor
