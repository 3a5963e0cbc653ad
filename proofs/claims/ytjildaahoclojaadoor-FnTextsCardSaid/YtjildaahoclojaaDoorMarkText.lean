/- laws.markText answers a mark for each number. -/
import Derived.Test.YtjildaahoclojaaDoorRows
import Derived.Test.YtjildaahoclojaaDoorSealMath
import Derived.WalkKit
import Derived.Lib.Hide
import Derived.Lib.ItoaNum
import Derived.Lib.ItoaMem
import Derived.WalkLawsBesides
import Derived.WalkSpells
import Derived.Outline
namespace Go.Proofs.YtjildaahoclojaaDoor
open Go.RowKit

/-- the digits of m, none for 0 -/
def ddL (m : Nat) : List UInt8 := if m = 0 then [] else Lib.decDigits m

theorem ddL_step (m : Nat) (h : 0 < m) : ddL m = ddL (m / 10) ++ [UInt8.ofNat (48 + m % 10)] := by
  unfold ddL
  rw [if_neg (by omega)]
  by_cases h10 : m < 10
  · rw [if_pos (by omega), Lib.decDigits_one h10, Nat.mod_eq_of_lt h10]; rfl
  · rw [if_neg (by omega), Lib.decDigits, dif_neg h10]

/-- the mark of number k -/
def markL (k : Nat) : List UInt8 := 109 :: Lib.decDigits k
def markB (k : Nat) : ByteArray := ⟨(markL k).toArray⟩

theorem dd_le (k : Nat) (h : k ≤ 9223372036854775) : (Lib.decDigits k).length ≤ 20 := by
  rw [Lib.decDigits_length]
  exact nDigits_le 20 k (by omega) (by omega)

theorem conv_one (wr : World) (m : Nat) :
    (convert 22 9 (.slice (some ⟨wr.heap.size, 0, none⟩) 1 1)).run Tryd.prog (wr.alloc (.cells #[.int .u8 (48 + (m : Int) % 10)] 5)) =
      .ok (.string ⟨#[UInt8.ofNat (48 + m % 10)]⟩) (wr.alloc (.cells #[.int .u8 (48 + (m : Int) % 10)] 5)) := by
  rw [run_convert_bytes_arg (wr.alloc (.cells #[.int .u8 (48 + (m : Int) % 10)] 5)) 22 5 Tryd.underlying22 Tryd.underlying5 wr.heap.size 0 1 1 [48 + (m : Int) % 10] rfl (fun i hi => by
    obtain rfl : i = 0 := by omega
    simp [World.cell?_alloc_at]) 9 Tryd.underlying9]
  have : (48 + (m : Int) % 10).toNat = 48 + m % 10 := by omega
  simp [strOfNums, this]

set_option maxRecDepth 100000 in
set_option maxHeartbeats 400000 in
theorem markText_calls (k : Nat) (w : World) (h1 : 1 ≤ k) (h2 : k ≤ 9223372036854775) :
    Calls Tryd.prog 54 #[.int .i64 k] w fun e w' => e = .returned (.string (markB k)) ∧ Below w.heap.size w w' := by
  have hlen := dd_le k h2
  go_enter Tryd.func54, Tryd.ntmps54
  go_wp2
  go_loopw [0, 3] (fun x o wr => ∃ (m : Nat) (l : List UInt8), x = .int .i64 m ∧ o = .string ⟨l.toArray⟩ ∧ Hid (ddL m ++ l = Lib.decDigits k) ∧ m ≤ k ∧ l.length ≤ 20 ∧ Below w.heap.size w wr) (fun x _ _ => (intOf x).toNat)
  case atStart => exact ⟨k, [], rfl, rfl, Lib.hid (by unfold ddL; rw [if_neg (by omega), List.append_nil]), Nat.le_refl _, by simp, Below.refl _ _⟩
  case round =>
    obtain ⟨m, l, rfl, rfl, hd, hm, hl, hb⟩ := hrel
    by_cases h0 : 0 < m
    · have e2 : UInt8.ofNat (48 + m % 10) = UInt8.ofNat (48 + m % 10) := rfl
      have HB := Lib.hid hb
      clear hb e2
      have hm3 : m ≤ 9223372036854775 := by omega
      have hc := conv_one wr m
      have hd2 : Hid (ddL (m / 10) ++ (UInt8.ofNat (48 + m % 10) :: l) = Lib.decDigits k) := by
        have := hd.out
        rw [ddL_step m h0, List.append_assoc] at this
        exact Lib.hid this
      have hl2 : l.length + 1 ≤ 20 := by
        have := congrArg List.length hd2.out
        simp at this
        omega
      have hm4 : m / 10 ≤ k := by omega
      clear hlen h1 h2 hd hm
      go_wp2_with fail
      go_roundw
      case rel =>
        exact ⟨m / 10, UInt8.ofNat (48 + m % 10) :: l, by go_num, congrArg Value.string (by show (_ : ByteArray) = ⟨([UInt8.ofNat (48 + m % 10)] ++ l).toArray⟩; rw [← Go.ByteArray.mk_append_mk]; simp), hd2, hm4, by simpa using hl2, HB.out.alloc HB.out.size _⟩
      case measure => simp [intOf]; omega
    · have hm0 : m = 0 := by omega
      subst hm0
      have hd2 : Hid ((⟨#[109]⟩ : ByteArray) ++ ⟨l.toArray⟩ = markB k) := by
        have := hd.out
        unfold ddL at this
        rw [if_pos rfl, List.nil_append] at this
        unfold markB markL
        rw [this, show (109 :: Lib.decDigits k) = [109] ++ Lib.decDigits k from rfl, ← Go.ByteArray.mk_append_mk]
        exact Lib.hid rfl
      have HB := Lib.hid hb
      clear hlen h1 h2 hd hm hb
      go_wp2_with fail
      go_ret
      exact ⟨congrArg (fun b => Ending.returned (Value.string b)) hd2.out, HB.out⟩

end Go.Proofs.YtjildaahoclojaaDoor
