/- spec.l1Num answers the decimal numeral of a number. -/
import Derived.Test.YtlblkmhiildgeaaDoorRows
import Derived.WalkKit
import Derived.Lib.Hide
import Derived.Lib.ItoaNum
import Derived.Lib.ItoaMem
import Derived.WalkLawsBesides
import Derived.WalkSpells
import Derived.Outline
import Derived.Deep.QuietTactic
import Derived.BigQuiet
namespace Go.Proofs.YtlblkmhiildgeaaDoor
open Go.RowKit

theorem dig_piece (n : Nat) (h : n < 10) : ((⟨#[48, 49, 50, 51, 52, 53, 54, 55, 56, 57]⟩ : ByteArray).extract n (n + 1)) = ⟨#[UInt8.ofNat (48 + n)]⟩ := by
  have : ∀ k : Fin 10, ((⟨#[48, 49, 50, 51, 52, 53, 54, 55, 56, 57]⟩ : ByteArray).extract k.1 (k.1 + 1)) = ⟨#[UInt8.ofNat (48 + k.1)]⟩ := by decide +kernel
  exact this ⟨n, h⟩

theorem ba_append (a b : List UInt8) : (⟨a.toArray⟩ : ByteArray) ++ (⟨b.toArray⟩ : ByteArray) = ⟨(a ++ b).toArray⟩ := by
  apply ByteArray.ext
  simp

theorem decDigits_le (n : Nat) (h : n ≤ 9223372036854775) : (Lib.decDigits n).length ≤ 20 := by
  rw [Lib.decDigits_length]
  have : ∀ k m : Nat, m < 10 ^ k → 1 ≤ k → Lib.nDigits m ≤ k := by
    intro k
    induction k with
    | zero => intro m _ h; omega
    | succ k ih =>
      intro m hm _
      by_cases h10 : m < 10
      · rw [Lib.nDigits_small h10]; omega
      · rw [Lib.nDigits_big h10]
        have hk : 1 ≤ k := by
          rcases Nat.eq_zero_or_pos k with rfl | h
          · simp at hm; omega
          · exact h
        have := ih (m / 10) (by rw [Nat.pow_succ] at hm; omega) hk
        omega
  exact this 20 n (by omega) (by omega)

theorem ret_str {a b : ByteArray} (h : a = b) : Ending.returned (.string a) = .returned (.string b) := by rw [h]

set_option maxHeartbeats 400000 in
theorem l1Num_nn (k : Nat) : ∀ (n : Int) (w : World), n ≤ k → 0 ≤ n → n ≤ 9223372036854775 →
    Calls Tryd.prog 64 #[.int .i64 n] w fun e w' => e = .returned (.string ⟨(Lib.decDigits n.toNat).toArray⟩) ∧ ∃ m, w' = w.drewN m := by
  induction k with
  | zero =>
    intro n w hk h0 hm
    obtain rfl : n = 0 := by omega
    go_enter Tryd.func64, Tryd.ntmps64
    go_wp2_with fail
    go_ret
    exact ⟨ret_str (by decide +kernel), 0, rfl⟩
  | succ k ih =>
    intro n w hk h0 hm
    obtain ⟨m, rfl⟩ := Int.eq_ofNat_of_zero_le h0
    by_cases h : m < 10
    · go_enter Tryd.func64, Tryd.ntmps64
      go_wp2_with fail
      go_ret
      exact ⟨ret_str (by rw [dig_piece m h, Int.toNat_natCast, Lib.decDigits_one h]), 0, rfl⟩
    · have IH := Lib.hid ih
      clear ih
      have hd : Lib.decDigits m = Lib.decDigits (m / 10) ++ [UInt8.ofNat (48 + m % 10)] := by rw [Lib.decDigits, dif_neg h]
      have HD := Lib.hid hd
      clear hd
      have hp := dig_piece (m % 10) (by omega)
      have e1 : IntKind.i64.wrap ((m : Int) / 10) = (m : Int) / 10 := IntWalk.i64_in _ (by omega)
      have e2 : IntKind.i64.wrap ((m : Int) % 10) = (m : Int) % 10 := IntWalk.i64_in _ (by omega)
      have e3 : IntKind.i64.wrap ((m : Int) % 10 + 1) = (m : Int) % 10 + 1 := IntWalk.i64_in _ (by omega)
      have e4 : (m : Int).tmod 10 = (m : Int) % 10 := Int.tmod_eq_emod_of_nonneg (by omega)
      have g1 : 0 ≤ (m : Int) % 10 := by omega
      have g2 : (m : Int) % 10 ≤ (m : Int) % 10 + 1 := by omega
      have g3 : (m : Int) % 10 + 1 ≤ 10 := by omega
      have g0 : 0 ≤ (m : Int) % 10 + 1 := by omega
      have g4 : ((m : Int) % 10).toNat = m % 10 := by omega
      have g5 : ((m : Int) % 10 + 1).toNat = m % 10 + 1 := by omega
      have g6 : m % 10 ≤ m % 10 + 1 := by omega
      have g7 : m % 10 + 1 ≤ 10 := by omega
      have g8 : ((m : Int) / 10).toNat = m / 10 := by omega
      have hl := decDigits_le (m / 10) (by omega)
      have c1 : (m : Int) / 10 ≤ k := by omega
      have c2 : 0 ≤ (m : Int) / 10 := by omega
      have c3 : (m : Int) / 10 ≤ 9223372036854775 := by omega
      go_enter Tryd.func64, Tryd.ntmps64
      go_wp2_with fail
      go_quiet ((go_at_call 64; exact Calls.quiet_of (IH.out _ _ c1 c2 c3)))
      go_wp2_with fail
      go_ret
      exact ⟨ret_str (by rw [Int.toNat_natCast, HD.out, ← ba_append]; simp), _, rfl⟩

set_option maxHeartbeats 400000 in
theorem l1Num_any (n : Int) (w : World) (h : -9223372036854775 ≤ n) (h' : n ≤ 9223372036854775) :
    Calls Tryd.prog 64 #[.int .i64 n] w fun e w' => e = .returned (.string ⟨(Lib.itoa n).toArray⟩) ∧ ∃ m, w' = w.drewN m := by
  by_cases h0 : 0 ≤ n
  · refine (l1Num_nn n.toNat n w (by omega) h0 h').mono ?_
    rintro e w' ⟨rfl, hw⟩
    exact ⟨by rw [Lib.itoa, if_neg (by omega)], hw⟩
  · have c1 : -n ≤ ((-n).toNat : Int) := by omega
    have c2 : 0 ≤ -n := by omega
    have c3 : -n ≤ 9223372036854775 := by omega
    have hl := decDigits_le (-n).toNat (by omega)
    have hi : Lib.itoa n = 45 :: Lib.decDigits (-n).toNat := by
      rw [Lib.itoa, if_pos (by omega)]
      congr 2
      omega
    have HI := Lib.hid hi
    clear hi
    have hn : n < 0 := by omega
    clear h0
    go_enter Tryd.func64, Tryd.ntmps64
    go_wp2_with fail
    refine (l1Num_nn (-n).toNat (-n) w c1 c2 c3).mono ?_
    rintro e w' ⟨rfl, m, rfl⟩
    go_wp2_with fail
    go_ret
    exact ⟨ret_str (by rw [HI.out, show (45 :: Lib.decDigits (-n).toNat) = [45] ++ Lib.decDigits (-n).toNat from rfl, ← ba_append]), _, rfl⟩

end Go.Proofs.YtlblkmhiildgeaaDoor
