/- Plain facts about bytes and numbers. They speak of no program. -/
import Derived.WalkKit
import Derived.Lib.Hide
namespace Go.Proofs.YtabfdaofikccmaaGreat

/-- the checksum of a list of bytes -/
def sumL (l : List UInt8) : Int := l.foldl (fun n c => (37 * n + (c.toNat : Int) + 1) % 999983) 5

theorem sumL_snoc (l : List UInt8) (c : UInt8) : sumL (l ++ [c]) = (37 * sumL l + (c.toNat : Int) + 1) % 999983 := by
  simp [sumL, List.foldl_append]

theorem sumL_bd (l : List UInt8) : 0 ≤ sumL l ∧ sumL l < 999983 := by
  rcases List.eq_nil_or_concat l with rfl | ⟨m, c, rfl⟩
  · simp [sumL]
  · rw [List.concat_eq_append, sumL_snoc]
    exact ⟨Int.emod_nonneg _ (by decide), Int.emod_lt_of_pos _ (by decide)⟩

theorem take_snoc (s : ByteArray) (k : Nat) (h : k < s.size) : s.data.toList.take (k + 1) = s.data.toList.take k ++ [s[k]] := by
  rw [List.take_succ_eq_append_getElem (by simpa using h)]; rfl

theorem take_all (s : ByteArray) : s.data.toList.take s.size = s.data.toList := by
  apply List.take_of_length_le; simp

/-- a byte stands in a list -/
def hasB (l : List UInt8) (b : UInt8) : Bool := l.contains b

theorem ret_int {k : IntKind} {a b : Int} (h : a = b) : Ending.returned (.int k a) = .returned (.int k b) := by rw [h]

end Go.Proofs.YtabfdaofikccmaaGreat
