/- laws.toForm: the copy lies in memory of its own. -/
import Derived.Test.YtabfdaofikccmaaFmOwn
import Derived.Test.YtabfdaofikccmaaFmBkPut
namespace Go.Proofs.Ytabfdaofikccmaa
set_option linter.unusedVariables false
set_option linter.unusedSimpArgs false
open Go.RowKit
theorem OwnI.setCell {w : World} {base : Nat} {v : Value} {l : List Int} {p : Addr} {u : Value} (h : OwnI w base v l) (hne : v.ownBlock ≠ some p.block) : OwnI (w.setCell p u) base v l :=
  h.only (Only.of_set (F := fun b => b = p.block) u rfl) (fun g e1 e2 => hne (e2 ▸ e1))
/-- nodes that have been copied, and empty ones -/
def partZ (f : List Nz) (k : Nat) : List Nz := f.take k ++ List.replicate (f.length - k) ([], [])
theorem partZ_len (f : List Nz) (k : Nat) (h : k ≤ f.length) : (partZ f k).length = f.length := by unfold partZ; simp; omega
theorem partZ_set (f : List Nz) (k : Nat) (nd : Nz) (h : f[k]? = some nd) : (partZ f k).set k nd = partZ f (k + 1) := by
  have hl := get_lt h
  have hk : (f.take k).length = k := by simp; omega
  unfold partZ
  rw [List.set_append_right _ _ (by omega), hk, Nat.sub_self, List.take_succ_eq_append_getElem hl, List.append_assoc]
  rw [List.getElem?_eq_getElem hl] at h
  injection h with h
  rw [h, show f.length - k = (f.length - (k + 1)) + 1 from by omega, List.replicate_succ, List.set_cons_zero]
  rfl
/-- a row of nodes that was just made -/
theorem ownF_made {base g n : Nat} {w : World} (h : w.ownsRow base 57 2 (.slice (some ⟨g, 0, none⟩) n n) n (madeCells (Value.agg #[.slice none 0 0, .slice none 0 0]).cells (n * 2)).toList) :
    OwnF w base (.slice (some ⟨g, 0, none⟩) n n) (List.replicate n (.slice none 0 0, .slice none 0 0)) (List.replicate n ([], [])) := by
  have e : ∀ m : Nat, rowN2 (List.replicate m ((.slice none 0 0, .slice none 0 0) : Value × Value)) = List.replicate (m * 2) (.slice none 0 0) := fun m => by
    induction m with
    | zero => rfl
    | succ m ih =>
      rw [List.replicate_succ]
      show Value.slice none 0 0 :: Value.slice none 0 0 :: rowN2 (List.replicate m ((.slice none 0 0, .slice none 0 0) : Value × Value)) = _
      rw [ih, show (m + 1) * 2 = m * 2 + 1 + 1 from by omega, List.replicate_succ, List.replicate_succ]
  have e2 : (madeCells (Value.agg #[.slice none 0 0, .slice none 0 0]).cells (n * 2)).toList = List.replicate (n * 2) (.slice none 0 0) := by
    apply List.ext_getElem
    · simp [madeCells]
    · intro i h1 h2
      have : i % 2 = 0 ∨ i % 2 = 1 := by omega
      rcases this with h3 | h3 <;> simp [madeCells, Value.cells, h3]
  rw [e2, ← e n] at h
  refine ⟨by rw [List.length_replicate]; exact h, by simp, fun j nd p hj hp => ?_, fun j p hp => ?_, fun i j p q _ hp hq => ?_⟩
  · have h1 := List.eq_of_mem_replicate (List.mem_of_getElem? hj)
    have h2 := List.eq_of_mem_replicate (List.mem_of_getElem? hp)
    subst h1 h2
    exact ⟨OwnI.nil _ _, OwnI.nil _ _⟩
  · have h2 := List.eq_of_mem_replicate (List.mem_of_getElem? hp)
    subst h2
    exact ⟨Apart.nil _, (Apart.nil _).symm, (Apart.nil _).symm⟩
  · have h1 := List.eq_of_mem_replicate (List.mem_of_getElem? hp)
    have h2 := List.eq_of_mem_replicate (List.mem_of_getElem? hq)
    subst h1 h2
    exact ⟨Apart.nil _, Apart.nil _, Apart.nil _, Apart.nil _⟩
theorem OwnF.setCell {w : World} {base : Nat} {v : Value} {vs : List (Value × Value)} {f : List Nz} {p : Addr} {u : Value} (h : OwnF w base v vs f) (hp : p.block < base) : OwnF (w.setCell p u) base v vs f :=
  h.only (Only.of_set (F := fun b => b = p.block) u rfl) (fun g h1 _ e => by omega)
theorem OwnF.mono {w : World} {base base' : Nat} {v : Value} {vs : List (Value × Value)} {f : List Nz} (h : OwnF w base v vs f) (hb : base' ≤ base) : OwnF w base' v vs f :=
  ⟨World.ownsRow.mono h.nodes hb, h.len, fun j nd p h1 h2 => ⟨(h.list j nd p h1 h2).1.mono hb, (h.list j nd p h1 h2).2.mono hb⟩, h.two, h.sep⟩
theorem apart_fresh {w w' : World} {base B : Nat} {p q : Value} {l m : List Int} (hp : OwnI w' B p l) (hq : OwnI w base q m) (hB : w.heap.size ≤ B) : Apart p q := fun g h1 h2 => by
  have := (hp.lt g h1).1
  have := (hq.lt g h2).2
  omega
/-- the next node is put in -/
theorem OwnF.next {w w4 : World} {base k g c : Nat} {vs : List (Value × Value)} {f : List Nz} {nd : Nz} {p : Value × Value} (h : OwnF w base (.slice (some ⟨g, 0, none⟩) f.length c) vs (partZ f k)) (hk : f[k]? = some nd) (hb : Below w.heap.size w w4) (hbase : base ≤ w.heap.size)
    (h1 : OwnI w4 w.heap.size p.1 nd.1) (h2 : OwnI w4 w.heap.size p.2 nd.2) (ha : Apart p.1 p.2) :
    OwnF ((w4.setCell ⟨g, k * 2, none⟩ p.1).setCell ⟨g, k * 2 + 1, none⟩ p.2) base (.slice (some ⟨g, 0, none⟩) f.length c) (vs.set k p) (partZ f (k + 1)) := by
  have hl := get_lt hk
  have hp := partZ_len f k (by omega)
  have h4 := h.below hb
  rw [← hp] at h4
  have hg := (World.ownsRow.lt h.nodes g rfl).2
  have key := h4.put (j := k) (nd := nd) (p := p) (by omega) (h1.mono hbase) (h2.mono hbase) ha (fun e => by have := (h1.lt g e).1; omega) (fun e => by have := (h2.lt g e).1; omega) (fun i q hne hq => by
    have hi := get_lt hq
    rw [h.len] at hi
    obtain ⟨n0, hn0⟩ := lt_get hi
    have := h.list i n0 q hn0 hq
    exact ⟨⟨apart_fresh h1 this.1 (Nat.le_refl _), apart_fresh h1 this.2 (Nat.le_refl _)⟩, apart_fresh h2 this.1 (Nat.le_refl _), apart_fresh h2 this.2 (Nat.le_refl _)⟩)
  rw [partZ_set f k nd hk, hp] at key
  exact key
theorem OwnF.cell {w : World} {base k g n c : Nat} {vs : List (Value × Value)} {f : List Nz} (h : OwnF w base (.slice (some ⟨g, 0, none⟩) n c) vs f) (hn : f.length = n) (hk : k < n) :
    (∃ x1, w.cell? ⟨g, k * 2, none⟩ = some x1) ∧ (∃ x2, w.cell? ⟨g, k * 2 + 1, none⟩ = some x2) ∧ ∀ o, w.frozen? ⟨g, o, none⟩ = false := by
  subst hn
  obtain ⟨p, hp⟩ := lt_get (l := vs) (i := k) (by rw [h.len]; exact hk)
  have hr := rowN2_at vs k p hp
  exact ⟨⟨_, (World.ownsRow.cellAt h.nodes (k * 2) (by omega)).trans hr.1⟩, ⟨_, (World.ownsRow.cellAt h.nodes (k * 2 + 1) (by omega)).trans hr.2⟩, fun o => World.ownsRow.frozenAt h.nodes o⟩
end Go.Proofs.Ytabfdaofikccmaa
