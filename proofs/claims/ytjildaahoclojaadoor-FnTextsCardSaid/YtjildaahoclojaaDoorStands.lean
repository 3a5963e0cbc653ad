/- spec.l1Stands tells whether a byte stands in a text. -/
import Derived.Test.YtjildaahoclojaaDoorRows
import Derived.Test.YtjildaahoclojaaDoorMath
import Derived.WalkKit
import Derived.Lib.Hide
import Derived.WalkLawsBesides
import Derived.WalkSpells
import Derived.Outline
namespace Go.Proofs.YtjildaahoclojaaDoor
open Go.RowKit

theorem ret_bool {a b : Bool} (h : a = b) : Ending.returned (.bool a) = .returned (.bool b) := by rw [h]

theorem byte_eq {a b : UInt8} (h : a = b) : ((a.toNat : Int) == (b.toNat : Int)) = true := by subst h; simp
theorem byte_ne {a b : UInt8} (h : ¬ a = b) : ((a.toNat : Int) == (b.toNat : Int)) = false := by
  rw [beq_eq_false_iff_ne]
  intro e
  exact h (UInt8.toNat_inj.1 (by omega))

set_option maxHeartbeats 400000 in
theorem l1Stands_calls (s : ByteArray) (b : UInt8) (w : World) (hs : s.size ≤ maxLen) :
    Calls Tryd.prog 47 #[.string s, .int .u8 b.toNat] w fun e w' => e = .returned (.bool (hasB s.data.toList b)) ∧ w = w' := by
  unfold maxLen at hs
  go_enter Tryd.func47, Tryd.ntmps47
  go_wp2
  go_loop [5] (fun i => ∃ k : Nat, k ≤ s.size ∧ i = .int .i64 k ∧ Hid (hasB (s.data.toList.take k) b = false)) (fun i => s.size - (intOf i).toNat)
  case atStart => exact ⟨0, Nat.zero_le _, rfl, Lib.hid rfl⟩
  case round =>
    obtain ⟨k, hk, rfl, HK⟩ := hrel
    by_cases hlt : k < s.size
    · by_cases hb : s[k] = b
      · have hc : hasB s.data.toList b = true := by
          unfold hasB
          rw [List.contains_iff_mem, ← hb]
          exact List.mem_of_getElem (l := s.data.toList) (i := k) (h := by simpa using hlt) rfl
        have HC := Lib.hid hc
        have he := byte_eq hb
        clear hc hb
        go_wp2
        go_ret
        exact ⟨ret_bool HC.out.symm, rfl⟩
      · have hn : hasB (s.data.toList.take (k + 1)) b = false := by
          have h0 := HK.out
          unfold hasB at h0 ⊢
          rw [take_snoc s k hlt, List.contains_eq_any_beq, List.any_append, ← List.contains_eq_any_beq, h0]
          simp [Ne.symm hb]
        have HN := Lib.hid hn
        have he := byte_ne hb
        clear hn hb HK
        go_wp2
        go_round
        case rel => exact ⟨k + 1, by omega, by go_num, HN⟩
        case measure => simp [intOf]; omega
    · have hf : hasB s.data.toList b = false := by
        have := HK.out
        rwa [show k = s.size from by omega, take_all] at this
      have HF := Lib.hid hf
      clear hf HK
      go_wp2
      go_ret
      exact ⟨ret_bool HF.out.symm, rfl⟩

end Go.Proofs.YtjildaahoclojaaDoor
