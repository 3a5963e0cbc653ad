/- spec.l1Seal and spec.SealText. -/
import Derived.Test.YtjildaahoclojaaDoorNumS
import Derived.Test.YtjildaahoclojaaDoorSumS
import Derived.Test.YtjildaahoclojaaDoorStands
import Derived.Test.YtjildaahoclojaaDoorSealMath
namespace Go.Proofs.YtjildaahoclojaaDoor
open Go.RowKit

set_option maxHeartbeats 400000 in
theorem l1Seal_calls (s : ByteArray) (w : World) (hs : s.size ≤ 1000000) :
    Calls Tryd.prog 48 #[.string s] w fun e w' => e = .returned (.string ⟨(sealL s.data.toList).toArray⟩) ∧ ∃ m, w' = w.drewN m := by
  have hm : s.size ≤ maxLen := by unfold maxLen; omega
  obtain ⟨hb0, hb1⟩ := sumL_bd s.data.toList
  have c1 : -9223372036854775 ≤ sumL s.data.toList := by omega
  have c2 : sumL s.data.toList ≤ 9223372036854775 := by omega
  have hl := itoa_sum_le s.data.toList
  go_enter Tryd.func48, Tryd.ntmps48
  go_wp2_with (first
    | (go_at_call 60; refine (l1Sum_calls _ _ hm).mono ?_; rintro e w' ⟨rfl, rfl⟩)
    | (go_at_call 39; refine (l1Num_any _ _ c1 c2).mono ?_; rintro e w' ⟨rfl, m, rfl⟩))
  go_ret
  exact ⟨ret_str (seal_ba s), _, rfl⟩

theorem stands_is (s : ByteArray) (b : UInt8) (w : World) (hs : s.size ≤ 1000000) (v : Bool) (h : hasB s.data.toList b = v) :
    Calls Tryd.prog 47 #[.string s, .int .u8 b.toNat] w fun e w' => e = .returned (.bool v) ∧ w = w' := by
  have := l1Stands_calls s b w (by unfold maxLen; omega)
  rwa [h] at this

theorem stands35 (s : ByteArray) (w : World) (hs : s.size ≤ 1000000) (v : Bool) (h : hasB s.data.toList 35 = v) :
    Calls Tryd.prog 47 #[.string s, .int .u8 35] w fun e w' => e = .returned (.bool v) ∧ w = w' :=
  stands_is s 35 w hs v h

set_option maxHeartbeats 400000 in
theorem sealS_big (s : ByteArray) (w : World) (hs : s.size ≤ maxLen) (h : 4000 < s.size) :
    Calls Tryd.prog 19 #[.string s] w fun e w' => e = .returned (.tuple #[.string ⟨#[]⟩, .bool false]) ∧ ∃ m, w' = w.drewN m := by
  unfold maxLen at hs
  go_enter Tryd.func19, Tryd.ntmps19
  go_wp2_with fail
  go_ret2
  exact ⟨rfl, 0, rfl⟩

set_option maxHeartbeats 400000 in
theorem sealS_mark (s : ByteArray) (w : World) (h : s.size ≤ 4000) (hh : hasB s.data.toList 35 = true) :
    Calls Tryd.prog 19 #[.string s] w fun e w' => e = .returned (.tuple #[.string ⟨#[]⟩, .bool false]) ∧ ∃ m, w' = w.drewN m := by
  have HC := Lib.hid (stands35 s w (by omega) true hh)
  clear hh
  go_enter Tryd.func19, Tryd.ntmps19
  go_wp2_with (go_at_call 47; refine HC.out.mono ?_; rintro e w' ⟨rfl, rfl⟩)
  go_ret2
  exact ⟨rfl, 0, rfl⟩

set_option maxHeartbeats 400000 in
theorem sealS_long (s : ByteArray) (w : World) (h : s.size ≤ 4000) (hh : hasB s.data.toList 35 = false) (hl : 4000 < (sealL s.data.toList).length) :
    Calls Tryd.prog 19 #[.string s] w fun e w' => e = .returned (.tuple #[.string ⟨#[]⟩, .bool false]) ∧ ∃ m, w' = w.drewN m := by
  have HC := Lib.hid (stands35 s w (by omega) false hh)
  have HS := Lib.hid (l1Seal_calls s w (by omega))
  clear hh
  go_enter Tryd.func19, Tryd.ntmps19
  go_wp2_with (first
    | (go_at_call 47; refine HC.out.mono ?_; rintro e w' ⟨rfl, rfl⟩)
    | (go_at_call 48; refine HS.out.mono ?_; rintro e w' ⟨rfl, m, rfl⟩))
  go_ret2
  exact ⟨rfl, _, rfl⟩

set_option maxHeartbeats 400000 in
theorem sealS_ok (s : ByteArray) (w : World) (h : s.size ≤ 4000) (hh : hasB s.data.toList 35 = false) (hl : (sealL s.data.toList).length ≤ 4000) :
    Calls Tryd.prog 19 #[.string s] w fun e w' => e = .returned (.tuple #[.string ⟨(sealL s.data.toList).toArray⟩, .bool true]) ∧ ∃ m, w' = w.drewN m := by
  have HC := Lib.hid (stands35 s w (by omega) false hh)
  have hq : s.size ≤ 1000000 := by omega
  clear hh
  go_enter Tryd.func19, Tryd.ntmps19
  go_wp2_with (first
    | (go_at_call 47; refine HC.out.mono ?_; rintro e w' ⟨rfl, rfl⟩)
    | (go_at_call 48; refine (l1Seal_calls _ _ hq).mono ?_; rintro e w' ⟨rfl, m, rfl⟩))
  go_ret2
  exact ⟨rfl, _, rfl⟩

end Go.Proofs.YtjildaahoclojaaDoor
