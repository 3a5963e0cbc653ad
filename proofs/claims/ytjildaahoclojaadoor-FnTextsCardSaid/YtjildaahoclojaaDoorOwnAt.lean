/- What an owned list of strings gives. -/
import Derived.Test.YtjildaahoclojaaDoorEqStrs
import Derived.Laws.OwnMore
namespace Go.Proofs.YtjildaahoclojaaDoor
open Go.RowKit

theorem ownsAt {w : World} {base g c : Nat} {l : List ByteArray} (h : w.ownsRow base 9 1 (.slice (some ⟨g, 0, none⟩) l.length c) l.length (l.map Value.string)) : StrsAt w g l := by
  intro j x hx
  have hj : j < l.length := by
    rcases Nat.lt_or_ge j l.length with h1 | h1
    · exact h1
    · rw [List.getElem?_eq_none h1] at hx; cases hx
  rw [World.ownsRow.cellAt h j (by omega), List.getElem?_map, hx]
  rfl

theorem ownsCap {w : World} {base g c n : Nat} {xs : List Value} (h : w.ownsRow base 9 1 (.slice (some ⟨g, 0, none⟩) n c) n xs) : n ≤ c := by
  rcases h.2 with ⟨h1, _⟩ | ⟨g', cap, cur, h1, _, _, h2, _⟩
  · cases h1
  · cases h1
    exact h2

theorem StrsAt.below {w w' : World} {g : Nat} {l : List ByteArray} (h : StrsAt w g l) (hb : Below w.heap.size w w') (hg : g < w.heap.size) : StrsAt w' g l :=
  h.of_same fun o => hb.cell (p := ⟨g, o, none⟩) hg

end Go.Proofs.YtjildaahoclojaaDoor
