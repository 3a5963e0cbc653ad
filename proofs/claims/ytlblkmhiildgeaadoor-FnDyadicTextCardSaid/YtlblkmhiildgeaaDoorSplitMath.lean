/- A text cut at a byte: the parts, round by round. -/
import Derived.Test.YtlblkmhiildgeaaDoorMath
import Derived.Lib.Split
namespace Go.Proofs.YtlblkmhiildgeaaDoor

/-- the parts closed after k bytes, and where the open one begins -/
def spSt (s : ByteArray) (b : UInt8) : Nat → List ByteArray × Nat
  | 0 => ([], 0)
  | k + 1 => if s.data.toList[k]? = some b then ((spSt s b k).1 ++ [s.extract (spSt s b k).2 k], k + 1) else spSt s b k

def spAll (s : ByteArray) (b : UInt8) : List ByteArray := (spSt s b s.size).1 ++ [s.extract (spSt s b s.size).2 s.size]

theorem spSt_le (s : ByteArray) (b : UInt8) : ∀ k, (spSt s b k).2 ≤ k ∧ (spSt s b k).1.length ≤ k
  | 0 => ⟨Nat.le_refl _, Nat.le_refl _⟩
  | k + 1 => by
    have := spSt_le s b k
    unfold spSt
    split
    · simp; omega
    · omega

theorem spSt_hit (s : ByteArray) (b : UInt8) (k : Nat) (h : k < s.size) (e : s[k] = b) : spSt s b (k + 1) = ((spSt s b k).1 ++ [s.extract (spSt s b k).2 k], k + 1) := by
  have : s.data.toList[k]? = some b := by rw [← e]; rw [List.getElem?_eq_getElem (by simpa using h)]; rfl
  rw [spSt, if_pos this]

theorem spSt_miss (s : ByteArray) (b : UInt8) (k : Nat) (h : k < s.size) (e : ¬ s[k] = b) : spSt s b (k + 1) = spSt s b k := by
  have : ¬ s.data.toList[k]? = some b := by
    rw [List.getElem?_eq_getElem (by simpa using h)]
    intro h2
    exact e (Option.some.inj h2)
  rw [spSt, if_neg this]

end Go.Proofs.YtlblkmhiildgeaaDoor
