/- The laws' marks: numbers written through a form, and read again. -/
import Derived.Test.YtabfdaofikccmaaFmOwn
import Derived.Test.YtabfdaofikccmaaFmBkPut
namespace Go.Proofs.Ytabfdaofikccmaa
set_option linter.unusedVariables false
set_option linter.unusedSimpArgs false
open Go.RowKit
theorem OwnI.len_ {base g n c : Nat} {l : List Int} {w : World} (h : OwnI w base (.slice (some ⟨g, 0, none⟩) n c) l) : n = l.length := by
  rcases h.2 with ⟨h1, h0⟩ | ⟨g', c', cs, h1, _⟩
  · cases h1
  · injection h1
theorem OwnI.at_ {base g n c x : Nat} {v : Int} {l : List Int} {w : World} (h : OwnI w base (.slice (some ⟨g, 0, none⟩) n c) l) (hx : l[x]? = some v) : w.cell? ⟨g, x, none⟩ = some (.int .i64 v) ∧ w.frozen? ⟨g, x, none⟩ = false := by
  have hl : (l.map (Value.int .i64)).length = l.length * 1 := h.1
  have hlt := get_lt hx
  obtain rfl := h.len_
  refine ⟨?_, World.ownsRow.frozenAt h x⟩
  rw [World.ownsRow.cellAt h x (by omega), List.getElem?_map, hx]
  rfl
theorem OwnI.put {base g n c x : Nat} {v : Int} {l : List Int} {w : World} (h : OwnI w base (.slice (some ⟨g, 0, none⟩) n c) l) :
    OwnI (w.setCell ⟨g, x, none⟩ (.int .i64 v)) base (.slice (some ⟨g, 0, none⟩) n c) (l.set x v) ∧ Only w (w.setCell ⟨g, x, none⟩ (.int .i64 v)) (fun b => (Value.slice (some ⟨g, 0, none⟩) n c).ownBlock = some b) := by
  obtain rfl := h.len_
  have h2 := World.ownsRow.stored h x (.int .i64 v)
  rw [← List.map_set] at h2
  refine ⟨?_, Only.of_set _ rfl⟩
  unfold OwnI
  rw [List.length_set]
  exact h2.1
/-- the blocks of a form's lists -/
def BlkF (vs : List (Value × Value)) (b : Nat) : Prop := ∃ (i : Nat) (p : Value × Value), vs[i]? = some p ∧ (p.1.ownBlock = some b ∨ p.2.ownBlock = some b)
theorem OwnF.blk {w : World} {base : Nat} {v : Value} {vs : List (Value × Value)} {f : List Nz} (h : OwnF w base v vs f) {b : Nat} (hb : BlkF vs b) : base ≤ b ∧ b < w.heap.size := by
  obtain ⟨i, p, hp, hb⟩ := hb
  obtain ⟨nd, hnd⟩ := lt_get (l := f) (i := i) (by rw [← h.len]; exact get_lt hp)
  obtain ⟨i1, i2⟩ := h.list i nd p hnd hp
  rcases hb with hb | hb
  · exact i1.lt b hb
  · exact i2.lt b hb
theorem OwnF.shape {w : World} {base : Nat} {v : Value} {vs : List (Value × Value)} {f : List Nz} (h : OwnF w base v vs f) : ∃ a c, v = .slice a f.length c := by
  rcases h.nodes.2 with ⟨h1, h0⟩ | ⟨g, c, cs, h1, _⟩
  · exact ⟨none, 0, by rw [h1, h0]⟩
  · exact ⟨_, _, h1⟩
end Go.Proofs.Ytabfdaofikccmaa
