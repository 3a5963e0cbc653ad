/- A form in memory of its own: each list in a block that no other one has. -/
import Derived.Test.YtabfdaofikccmaaFmBk
namespace Go.Proofs.Ytabfdaofikccmaa
set_option linter.unusedVariables false
set_option linter.unusedSimpArgs false
open Go.RowKit
/-- a list of numbers in a row of the call's own -/
def OwnI (w : World) (base : Nat) (v : Value) (l : List Int) : Prop := w.ownsRow base 3 1 v l.length (l.map (Value.int .i64))
theorem OwnI.only {w w' : World} {base : Nat} {v : Value} {l : List Int} {F : Nat → Prop} (h : OwnI w base v l) (ho : Only w w' F) (hn : ∀ g, v.ownBlock = some g → ¬ F g) : OwnI w' base v l := own_only h ho hn
theorem OwnI.below {w w' : World} {base : Nat} {v : Value} {l : List Int} (h : OwnI w base v l) (hb : Below w.heap.size w w') : OwnI w' base v l := own_only h (Only.of_below (F := fun _ => False) hb) (fun _ _ => id)
theorem OwnI.lt {w : World} {base : Nat} {v : Value} {l : List Int} (h : OwnI w base v l) : ∀ g, v.ownBlock = some g → base ≤ g ∧ g < w.heap.size := World.ownsRow.lt h
theorem OwnI.mono {w : World} {base base' : Nat} {v : Value} {l : List Int} (h : OwnI w base v l) (hb : base' ≤ base) : OwnI w base' v l := World.ownsRow.mono h hb
theorem OwnI.nil (w : World) (base : Nat) : OwnI w base (.slice none 0 0) [] := World.ownsRow_nil _ _ _ _
theorem OwnI.one {w : World} {base : Nat} {v : Value} {l : List Int} (h : OwnI w base v l) : v.oneCell' = true := by
  rcases h.2 with ⟨h1, _⟩ | ⟨g, c, cs, h1, _⟩
  · rw [h1]; rfl
  · rw [h1]; rfl
theorem OwnI.form {w : World} {base : Nat} {v : Value} {l : List Int} (h : OwnI w base v l) : ∃ a c, v = .slice a l.length c := by
  rcases h.2 with ⟨h1, h0⟩ | ⟨g, c, cs, h1, _⟩
  · exact ⟨none, 0, by rw [h1, h0]⟩
  · exact ⟨_, _, h1⟩
theorem OwnI.ints {w : World} {base : Nat} {v : Value} {l : List Int} (h : OwnI w base v l) : IntsZ w base w.heap.size v l := by
  rcases h.2 with ⟨h1, h0⟩ | ⟨g, c, cs, h1, _⟩
  · have hl : l = [] := List.length_eq_zero_iff.1 h0
    subst hl
    exact ⟨none, 0, by rw [h1]; rfl, by simp, fun j x hx => by simp at hx⟩
  · subst h1
    have hlt := World.ownsRow.lt h _ rfl
    have hcap := World.ownsRow.caps h
    refine ⟨_, _, rfl, hcap, fun j x hx => ⟨g, 0, rfl, hlt.1, hlt.2, ?_⟩⟩
    rw [Nat.zero_add, World.ownsRow.cellAt h j (by have := get_lt hx; omega), List.getElem?_map, hx]
    rfl
/-- no block in common -/
def Apart (a b : Value) : Prop := ∀ g, a.ownBlock = some g → b.ownBlock ≠ some g
theorem Apart.symm {a b : Value} (h : Apart a b) : Apart b a := fun g h1 h2 => h g h2 h1
theorem Apart.nil (b : Value) : Apart (.slice none 0 0) b := fun g h => by simp [Value.ownBlock] at h
structure OwnF (w : World) (base : Nat) (v : Value) (vs : List (Value × Value)) (f : List Nz) : Prop where
  nodes : w.ownsRow base 57 2 v f.length (rowN2 vs)
  len : vs.length = f.length
  list : ∀ (j : Nat) (nd : Nz) (p : Value × Value), f[j]? = some nd → vs[j]? = some p → OwnI w base p.1 nd.1 ∧ OwnI w base p.2 nd.2
  two : ∀ (j : Nat) (p : Value × Value), vs[j]? = some p → Apart p.1 p.2 ∧ Apart v p.1 ∧ Apart v p.2
  sep : ∀ (i j : Nat) (p q : Value × Value), i ≠ j → vs[i]? = some p → vs[j]? = some q → Apart p.1 q.1 ∧ Apart p.1 q.2 ∧ Apart p.2 q.1 ∧ Apart p.2 q.2
theorem OwnF.only {w w' : World} {base : Nat} {v : Value} {vs : List (Value × Value)} {f : List Nz} {F : Nat → Prop} (h : OwnF w base v vs f) (ho : Only w w' F) (hn : ∀ g, base ≤ g → g < w.heap.size → ¬ F g) : OwnF w' base v vs f :=
  ⟨own_only h.nodes ho (fun g hg => by have := World.ownsRow.lt h.nodes g hg; exact hn g this.1 this.2), h.len, fun j nd p h1 h2 => ⟨(h.list j nd p h1 h2).1.only ho (fun g hg => by have := (h.list j nd p h1 h2).1.lt g hg; exact hn g this.1 this.2),
    (h.list j nd p h1 h2).2.only ho (fun g hg => by have := (h.list j nd p h1 h2).2.lt g hg; exact hn g this.1 this.2)⟩, h.two, h.sep⟩
theorem OwnF.below {w w' : World} {base : Nat} {v : Value} {vs : List (Value × Value)} {f : List Nz} (h : OwnF w base v vs f) (hb : Below w.heap.size w w') : OwnF w' base v vs f := h.only (Only.of_below (F := fun _ => False) hb) (fun _ _ _ => id)
theorem set_get {α : Type} {l : List α} {i j : Nat} {x y : α} (h : (l.set j x)[i]? = some y) : (i = j ∧ y = x) ∨ (i ≠ j ∧ l[i]? = some y) := by
  by_cases e : i = j
  · subst e
    have hl := get_lt h
    rw [List.length_set] at hl
    rw [List.getElem?_set_self hl] at h
    injection h with h
    exact Or.inl ⟨rfl, h.symm⟩
  · rw [List.getElem?_set_ne (fun h => e h.symm)] at h
    exact Or.inr ⟨e, h⟩
/-- the left list of a node is written -/
theorem OwnF.setL {w w' : World} {base j : Nat} {v : Value} {vs : List (Value × Value)} {f : List Nz} {nd : Nz} {p : Value × Value} {l' : List Int} (h : OwnF w base v vs f) (hj : f[j]? = some nd) (hp : vs[j]? = some p)
    (ho : Only w w' (fun b => p.1.ownBlock = some b)) (hl : OwnI w' base p.1 l') : OwnF w' base v vs (f.set j (l', nd.2)) := by
  refine ⟨by rw [List.length_set]; exact own_only h.nodes ho (fun g h1 h2 => (h.two j p hp).2.1 g h1 h2), by rw [List.length_set]; exact h.len, fun i n0 q hi hq => ?_, h.two, h.sep⟩
  rcases set_get hi with ⟨rfl, rfl⟩ | ⟨hne, hi⟩
  · rw [hp] at hq
    injection hq with hq
    subst hq
    exact ⟨hl, (h.list i nd p hj hp).2.only ho (fun g h1 h2 => (h.two i p hp).1 g h2 h1)⟩
  · have hs := h.sep i j q p hne hq hp
    exact ⟨(h.list i n0 q hi hq).1.only ho (fun g h1 h2 => hs.1 g h1 h2), (h.list i n0 q hi hq).2.only ho (fun g h1 h2 => hs.2.2.1 g h1 h2)⟩
theorem rowN2_set : ∀ (vs : List (Value × Value)) (j : Nat) (p : Value × Value), ((rowN2 vs).set (j * 2) p.1).set (j * 2 + 1) p.2 = rowN2 (vs.set j p)
  | [], j, p => by simp [rowN2]
  | q :: vs, 0, p => by simp [rowN2]
  | q :: vs, j + 1, p => by
    have ih := rowN2_set vs j p
    show ((q.1 :: q.2 :: rowN2 vs).set ((j + 1) * 2) p.1).set ((j + 1) * 2 + 1) p.2 = q.1 :: q.2 :: rowN2 (vs.set j p)
    rw [show (j + 1) * 2 = j * 2 + 1 + 1 from by omega, List.set_cons_succ, List.set_cons_succ, List.set_cons_succ, List.set_cons_succ, ih]
/-- a node is written, its lists being new -/
theorem OwnF.put {w : World} {base j g c : Nat} {vs : List (Value × Value)} {f : List Nz} {nd : Nz} {p : Value × Value} (h : OwnF w base (.slice (some ⟨g, 0, none⟩) f.length c) vs f) (hj : j < f.length)
    (h1 : OwnI w base p.1 nd.1) (h2 : OwnI w base p.2 nd.2) (ha : Apart p.1 p.2) (hg1 : p.1.ownBlock ≠ some g) (hg2 : p.2.ownBlock ≠ some g)
    (hf : ∀ (i : Nat) (q : Value × Value), i ≠ j → vs[i]? = some q → (Apart p.1 q.1 ∧ Apart p.1 q.2) ∧ (Apart p.2 q.1 ∧ Apart p.2 q.2)) :
    OwnF ((w.setCell ⟨g, j * 2, none⟩ p.1).setCell ⟨g, j * 2 + 1, none⟩ p.2) base (.slice (some ⟨g, 0, none⟩) f.length c) (vs.set j p) (f.set j nd) := by
  have s1 := World.ownsRow.stored h.nodes (j * 2) p.1
  have s2 := World.ownsRow.stored s1.1 (j * 2 + 1) p.2
  have ho : Only w ((w.setCell ⟨g, j * 2, none⟩ p.1).setCell ⟨g, j * 2 + 1, none⟩ p.2) (fun b => b = g) := (Only.of_set (F := fun b => b = g) (p := ⟨g, j * 2, none⟩) p.1 rfl).trans (Only.of_set (F := fun b => b = g) (p := ⟨g, j * 2 + 1, none⟩) p.2 rfl) (fun _ _ e => e)
  have hv : (Value.slice (some ⟨g, 0, none⟩) f.length c).ownBlock = some g := rfl
  refine ⟨by rw [List.length_set, ← rowN2_set]; exact s2.1, by rw [List.length_set, List.length_set]; exact h.len, fun i n0 q hi hq => ?_, fun i q hq => ?_, fun i k q r hne hq hr => ?_⟩
  · rcases set_get hi with ⟨rfl, rfl⟩ | ⟨hne, hi⟩
    · rcases set_get hq with ⟨_, rfl⟩ | ⟨e, _⟩
      · exact ⟨h1.only ho (fun b e1 e2 => hg1 (e2 ▸ e1)), h2.only ho (fun b e1 e2 => hg2 (e2 ▸ e1))⟩
      · exact absurd rfl e
    · rcases set_get hq with ⟨e, _⟩ | ⟨_, hq⟩
      · exact absurd e hne
      · have hl := h.list i n0 q hi hq
        have ht := h.two i q hq
        exact ⟨hl.1.only ho (fun b e1 e2 => ht.2.1 g hv (e2 ▸ e1)), hl.2.only ho (fun b e1 e2 => ht.2.2 g hv (e2 ▸ e1))⟩
  · rcases set_get hq with ⟨rfl, rfl⟩ | ⟨_, hq⟩
    · exact ⟨ha, fun b e1 e2 => by rw [hv] at e1; injection e1 with e1; exact hg1 (e1 ▸ e2), fun b e1 e2 => by rw [hv] at e1; injection e1 with e1; exact hg2 (e1 ▸ e2)⟩
    · exact h.two i q hq
  · rcases set_get hq with ⟨e1, e2⟩ | ⟨h3, hq2⟩
    · rcases set_get hr with ⟨e3, _⟩ | ⟨h4, hr2⟩
      · exact absurd (e1.trans e3.symm) hne
      · rw [e2]
        have := hf k r h4 hr2
        exact ⟨this.1.1, this.1.2, this.2.1, this.2.2⟩
    · rcases set_get hr with ⟨e3, e4⟩ | ⟨h4, hr2⟩
      · rw [e4]
        have := hf i q h3 hq2
        exact ⟨this.1.1.symm, this.2.1.symm, this.1.2.symm, this.2.2.symm⟩
      · exact h.sep i k q r hne hq2 hr2
/-- a form of the call's own reads as its nodes -/
theorem OwnF.nodesZ {w : World} {base : Nat} {v : Value} {vs : List (Value × Value)} {f : List Nz} (h : OwnF w base v vs f) : NodesZ w base w.heap.size v f := by
  rcases h.nodes.2 with ⟨h1, h0⟩ | ⟨g, c, cs, h1, _⟩
  · have hl : f = [] := List.length_eq_zero_iff.1 h0
    subst hl
    exact ⟨none, 0, by rw [h1]; rfl, by simp, fun j nd hj => by simp at hj⟩
  · subst h1
    have hn := h.nodes
    have hlt := World.ownsRow.lt hn _ rfl
    refine ⟨_, c, rfl, World.ownsRow.caps hn, fun j nd hj => ?_⟩
    have hjl := get_lt hj
    obtain ⟨p, hp⟩ := lt_get (l := vs) (i := j) (by rw [h.len]; exact hjl)
    have hr := rowN2_at vs j p hp
    obtain ⟨i1, i2⟩ := h.list j nd p hj hp
    refine ⟨g, 0, p.1, p.2, rfl, hlt.1, hlt.2, ?_, ?_, i1.ints, i2.ints⟩
    · rw [Nat.zero_add, World.ownsRow.cellAt hn (j * 2) (by omega)]; exact hr.1
    · rw [Nat.zero_add, World.ownsRow.cellAt hn (j * 2 + 1) (by omega)]; exact hr.2
end Go.Proofs.Ytabfdaofikccmaa
