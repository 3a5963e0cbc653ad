/- Plain facts on sealed texts. -/
import Derived.Test.YtlblkmhiildgeaaDoorMath
import Derived.Lib.ItoaNum
import Derived.Lib.ItoaMem
import Derived.Laws.Concat
import Derived.Lib.Bytealg
namespace Go.Proofs.YtlblkmhiildgeaaDoor

/-- a text, the mark and the numeral of its checksum -/
def sealL (l : List UInt8) : List UInt8 := l ++ [35] ++ Lib.itoa (sumL l)

theorem ba_eta (s : ByteArray) : s = ⟨s.data.toList.toArray⟩ := by simp

theorem seal_ba (s : ByteArray) : s ++ (⟨#[35]⟩ : ByteArray) ++ (⟨(Lib.itoa (sumL s.data.toList)).toArray⟩ : ByteArray) = ⟨(sealL s.data.toList).toArray⟩ := by
  apply ByteArray.ext
  simp [sealL]

theorem nDigits_le : ∀ k m : Nat, m < 10 ^ k → 1 ≤ k → Lib.nDigits m ≤ k := by
  intro k
  induction k with
  | zero => intro m _ h; omega
  | succ k ih =>
    intro m hm _
    by_cases h10 : m < 10
    · rw [Lib.nDigits_small h10]; omega
    · rw [Lib.nDigits_big h10]
      have hk : 1 ≤ k := by
        rcases Nat.eq_zero_or_pos k with rfl | h
        · simp at hm; omega
        · exact h
      have := ih (m / 10) (by rw [Nat.pow_succ] at hm; omega) hk
      omega

theorem itoa_sum_le (l : List UInt8) : (Lib.itoa (sumL l)).length ≤ 6 := by
  obtain ⟨h0, h1⟩ := sumL_bd l
  rw [Lib.itoa, if_neg (by omega), Lib.decDigits_length]
  exact nDigits_le 6 _ (by omega) (by omega)

theorem contains_one (l : List UInt8) (c : UInt8) : decide (0 ≤ Lib.indexByte l c) = hasB l c := by
  unfold hasB
  induction l with
  | nil => simp [Lib.indexByte]
  | cons b l ih =>
    unfold Lib.indexByte
    rw [List.contains_cons]
    by_cases h : b = c
    · subst h; simp
    · have hb : (b == c) = false := by simp [h]
      have hc : (c == b) = false := by simp [Ne.symm h]
      rw [hb, hc, Bool.false_or, ← ih]
      have := Lib.indexByte_ge l c
      by_cases h1 : Lib.indexByte l c = -1
      · simp [h1]
      · simp [h1]; omega

end Go.Proofs.YtlblkmhiildgeaaDoor
