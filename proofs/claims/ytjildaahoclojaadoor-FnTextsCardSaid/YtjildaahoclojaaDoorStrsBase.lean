/- Lists of strings: how they read, and how many bytes they hold. -/
import Derived.Test.YtjildaahoclojaaDoorRows
import Derived.Test.YtjildaahoclojaaDoorMath
import Derived.WalkKit
import Derived.Lib.Hide
import Derived.WalkLawsBesides
import Derived.WalkSpells
import Derived.Outline
namespace Go.Proofs.YtjildaahoclojaaDoor
open Go.RowKit

/-- a slice that reads as these strings -/
def StrsIn (w : World) (v : Value) (l : List ByteArray) : Prop :=
  (∃ ao c, v = .slice ao 0 c ∧ l = []) ∨ (∃ b off c, v = .slice (some ⟨b, off, none⟩) l.length c ∧ 0 < l.length ∧ ∀ j x, l[j]? = some x → w.cell? ⟨b, off + j, none⟩ = some (.string x))

theorem StrsIn.below {w w' : World} {v : Value} {l : List ByteArray} (h : StrsIn w v l) (hb : Below w.heap.size w w') : StrsIn w' v l := by
  rcases h with h | ⟨b, off, c, h1, h2, h3⟩
  · exact Or.inl h
  · refine Or.inr ⟨b, off, c, h1, h2, fun j x hx => ?_⟩
    have hc := h3 j x hx
    have hlt : b < w.heap.size := by
      rcases Nat.lt_or_ge b w.heap.size with h4 | h4
      · exact h4
      · have h5 : w.heap[b]? = none := Array.getElem?_eq_none h4
        simp [World.cell?, h5] at hc
    exact (hb.cell (p := ⟨b, off + j, none⟩) hlt).trans hc

/-- the bytes of a list's strings -/
def sumSz (l : List ByteArray) : Nat := (l.map ByteArray.size).sum

theorem sumSz_snoc (l : List ByteArray) (x : ByteArray) : sumSz (l ++ [x]) = sumSz l + x.size := by simp [sumSz]

theorem takeS_snoc {α : Type} (l : List α) (k : Nat) (h : k < l.length) : l.take (k + 1) = l.take k ++ [l[k]] := by
  rw [List.take_succ_eq_append_getElem h]

theorem sumSz_le (l : List ByteArray) (k : Nat) : sumSz (l.take k) ≤ sumSz l := by
  have h : sumSz l = sumSz (l.take k) + sumSz (l.drop k) := by
    unfold sumSz
    rw [← List.sum_append, ← List.map_append, List.take_append_drop]
  omega

end Go.Proofs.YtjildaahoclojaaDoor
