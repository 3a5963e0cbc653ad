/- The model's book of games, as it lies in memory. -/
import Derived.Test.YtabfdaofikccmaaFmAt
import Derived.Maps.AppendAt
namespace Go.Proofs.Ytabfdaofikccmaa
open Go.RowKit
/-- two cells a node -/
def rowN2 (vs : List (Value × Value)) : List Value := vs.flatMap (fun p => [p.1, p.2])
theorem rowN2_len (vs : List (Value × Value)) : (rowN2 vs).length = vs.length * 2 := by
  induction vs with
  | nil => rfl
  | cons p vs ih => unfold rowN2 at ih ⊢; simp only [List.flatMap_cons, List.length_append, ih, List.length_cons, List.length_nil]; omega
theorem rowN2_at : ∀ (vs : List (Value × Value)) (j : Nat) (p : Value × Value), vs[j]? = some p → (rowN2 vs)[j * 2]? = some p.1 ∧ (rowN2 vs)[j * 2 + 1]? = some p.2
  | [], j, p, h => by simp at h
  | q :: vs, 0, p, h => by
    simp at h
    subst h
    simp [rowN2]
  | q :: vs, j + 1, p, h => by
    have h1 := rowN2_at vs j p (by simpa using h)
    unfold rowN2 at h1 ⊢
    rw [List.flatMap_cons]
    show ([q.1, q.2] ++ _)[(j + 1) * 2]? = _ ∧ ([q.1, q.2] ++ _)[(j + 1) * 2 + 1]? = _
    rw [show (j + 1) * 2 = j * 2 + 2 from by omega, show j * 2 + 2 + 1 = j * 2 + 1 + 2 from by omega]
    simpa using h1
theorem rowN2_snoc (vs : List (Value × Value)) (p : Value × Value) : rowN2 (vs ++ [p]) = rowN2 vs ++ [p.1, p.2] := by simp [rowN2]
/-- the blocks that a book writes -/
def Foot (B : Nat) (vn vb : Value) (g : Nat) : Prop := g = B ∨ vn.ownBlock = some g ∨ vb.ownBlock = some g
/-- a list of numbers in a block that no book writes -/
def InnerZ (w : World) (F : Nat → Prop) (v : Value) (l : List Nat) : Prop := ∃ b o c, v = .slice (some ⟨b, o, none⟩) l.length c ∧ b < w.heap.size ∧ ¬ F b ∧ IntsZ w 0 w.heap.size v (upL l)
structure Bk (base : Nat) (w : World) (B : Nat) (ns : List Nd) (bs : List Nat) (vn vb : Value) (vs : List (Value × Value)) (X : Nat → Prop) : Prop where
  c0 : w.cell? ⟨B, 0, none⟩ = some vn
  c1 : w.cell? ⟨B, 1, none⟩ = some vb
  z0 : w.frozen? ⟨B, 0, none⟩ = false
  z1 : w.frozen? ⟨B, 1, none⟩ = false
  low : base ≤ B
  nodes : w.ownsRow base 57 2 vn ns.length (rowN2 vs)
  len : vs.length = ns.length
  inner : ∀ (j : Nat) (nd : Nd) (p : Value × Value), ns[j]? = some nd → vs[j]? = some p → InnerZ w (fun g => Foot B vn vb g ∨ X g) p.1 nd.1 ∧ InnerZ w (fun g => Foot B vn vb g ∨ X g) p.2 nd.2
  born : w.ownsRow base 3 1 vb bs.length (bs.map iv)
  sn : vn.ownBlock ≠ some B
  sb : vb.ownBlock ≠ some B
  snb : ∀ g, vn.ownBlock = some g → vb.ownBlock ≠ some g
theorem Bk.lt {base B : Nat} {w : World} {ns : List Nd} {bs : List Nat} {vn vb : Value} {vs : List (Value × Value)} {X : Nat → Prop} (h : Bk base w B ns bs vn vb vs X) : ∀ g, Foot B vn vb g → base ≤ g ∧ g < w.heap.size := fun g hg => by
  rcases hg with rfl | hg | hg
  · exact ⟨h.low, block_of_cell h.c0⟩
  · exact World.ownsRow.lt h.nodes g hg
  · exact World.ownsRow.lt h.born g hg
/-- only these blocks, and new ones, have turned -/
structure Only (w w' : World) (F : Nat → Prop) : Prop where
  os : w'.os = w.os
  tape : w'.tape = w.tape
  output : w'.output = w.output
  size : w.heap.size ≤ w'.heap.size
  block : ∀ i, i < w.heap.size → ¬ F i → w'.heap[i]? = w.heap[i]?
theorem Only.refl (w : World) (F : Nat → Prop) : Only w w F := ⟨rfl, rfl, rfl, Nat.le_refl _, fun _ _ _ => rfl⟩
theorem Only.trans {a b c : World} {F G : Nat → Prop} (h : Only a b F) (k : Only b c G) (hs : ∀ i, i < a.heap.size → G i → F i) : Only a c F :=
  ⟨k.os.trans h.os, k.tape.trans h.tape, k.output.trans h.output, Nat.le_trans h.size k.size, fun i hi hn => (k.block i (Nat.lt_of_lt_of_le hi h.size) (fun hg => hn (hs i hi hg))).trans (h.block i hi hn)⟩
theorem Only.of_below {w w' : World} {F : Nat → Prop} (h : Below w.heap.size w w') : Only w w' F := ⟨h.os, h.tape, h.output, h.size, fun i hi _ => h.block i hi⟩
theorem Only.of_grown {w w' : World} {F : Nat → Prop} {row : Option Nat} (h : w.grownBy w' row) (hF : ∀ g, row = some g → F g) : Only w w' F :=
  ⟨h.os, h.tape, h.output, h.size, fun i hi hn => h.block i hi (fun e => hn (hF i e.symm))⟩
theorem Only.of_set {w : World} {F : Nat → Prop} {p : Addr} (u : Value) (hF : F p.block) : Only w (w.setCell p u) F :=
  ⟨rfl, rfl, rfl, by simp, fun i _ hn => Below.heap_setCell w p u i (fun e => hn (e ▸ hF))⟩
theorem Only.cell {w w' : World} {F : Nat → Prop} (h : Only w w' F) {b o : Nat} (hb : b < w.heap.size) (hn : ¬ F b) : w'.cell? ⟨b, o, none⟩ = w.cell? ⟨b, o, none⟩ :=
  World.cell?_of_block (a := ⟨b, o, none⟩) (h.block b hb hn)
theorem Only.frozen {w w' : World} {F : Nat → Prop} (h : Only w w' F) {b o : Nat} (hb : b < w.heap.size) (hn : ¬ F b) : w'.frozen? ⟨b, o, none⟩ = w.frozen? ⟨b, o, none⟩ :=
  World.frozen?_of_block (a := ⟨b, o, none⟩) (h.block b hb hn)
theorem Only.below {w w' : World} {F : Nat → Prop} {base : Nat} (h : Only w w' F) (hb : base ≤ w.heap.size) (hF : ∀ g, F g → base ≤ g) : Below base w w' :=
  ⟨h.os, h.tape, h.output, h.size, fun i hi => h.block i (by omega) (fun hg => by have := hF i hg; omega)⟩
theorem Only.mono {w w' : World} {F G : Nat → Prop} (h : Only w w' F) (hs : ∀ i, i < w.heap.size → F i → G i) : Only w w' G :=
  ⟨h.os, h.tape, h.output, h.size, fun i hi hn => h.block i hi (fun hg => hn (hs i hi hg))⟩
theorem InnerZ.only {w w' : World} {F G : Nat → Prop} {v : Value} {l : List Nat} (h : InnerZ w F v l) (ho : Only w w' F) (hG : ∀ g, g < w.heap.size → G g → F g) : InnerZ w' G v l := by
  obtain ⟨b, o, c, rfl, hb, hn, ao, c', e, h1, h2⟩ := h
  injection e with e1 e2 e3
  subst e1 e3
  refine ⟨b, o, c, rfl, Nat.lt_of_lt_of_le hb ho.size, fun hg => hn (hG b hb hg), _, _, by rw [e2], h1, fun j x hx => ?_⟩
  obtain ⟨b', off, e, _, h3, h4⟩ := h2 j x hx
  injection e with e
  injection e with e4 e5
  subst e4 e5
  exact ⟨b, o, rfl, Nat.zero_le _, Nat.lt_of_lt_of_le hb ho.size, (ho.cell hb hn).trans h4⟩
theorem own_only {w w' : World} {F : Nat → Prop} {base size n : Nat} {e : TypeId} {v : Value} {xs : List Value} (h : w.ownsRow base e size v n xs) (ho : Only w w' F) (hn : ∀ g, v.ownBlock = some g → ¬ F g) : w'.ownsRow base e size v n xs := by
  obtain ⟨h1, h2⟩ := h
  refine ⟨h1, ?_⟩
  rcases h2 with h2 | ⟨g, cap, cur, hv, hb, hc, hrest⟩
  · exact Or.inl h2
  · refine Or.inr ⟨g, cap, cur, hv, hb, ?_, hrest⟩
    have hg : g < w.heap.size := by
      rcases Nat.lt_or_ge g w.heap.size with hlt | hge
      · exact hlt
      · rw [Array.getElem?_eq_none hge] at hc; cases hc
    rw [ho.block g hg (hn g (by rw [hv]; rfl))]
    exact hc
theorem Bk.below {base B : Nat} {w w' : World} {ns : List Nd} {bs : List Nat} {vn vb : Value} {vs : List (Value × Value)} {X : Nat → Prop} (h : Bk base w B ns bs vn vb vs X) (hb : Below w.heap.size w w') : Bk base w' B ns bs vn vb vs X := by
  have ho : Only w w' (fun _ => False) := Only.of_below hb
  have hB := (h.lt B (Or.inl rfl)).2
  refine ⟨(ho.cell hB id).trans h.c0, (ho.cell hB id).trans h.c1, (ho.frozen hB id).trans h.z0, (ho.frozen hB id).trans h.z1, h.low, own_only h.nodes ho (fun _ _ => id), h.len, fun j nd p hj hp => ?_, own_only h.born ho (fun _ _ => id), h.sn, h.sb, h.snb⟩
  have := h.inner j nd p hj hp
  have ho2 : Only w w' (fun g => Foot B vn vb g ∨ X g) := Only.of_below hb
  exact ⟨this.1.only ho2 (fun _ _ => id), this.2.only ho2 (fun _ _ => id)⟩
/-- a node put in: its row is appended to, and the book's first cell written -/
theorem Bk.pushN {base B : Nat} {w w2 : World} {ns : List Nd} {bs : List Nat} {vn vb v2 : Value} {vs : List (Value × Value)} {X : Nat → Prop} {p : Value × Value} {nd : Nd} (h : Bk base w B ns bs vn vb vs X) (hg : w.grownBy w2 vn.ownBlock)
    (hown : w2.ownsRow base 57 2 v2 (ns.length + 1) (rowN2 vs ++ [p.1, p.2])) (hat : v2.ownBlock = vn.ownBlock ∨ v2.ownBlock = some w.heap.size)
    (hp : InnerZ w (fun g => Foot B vn vb g ∨ X g) p.1 nd.1 ∧ InnerZ w (fun g => Foot B vn vb g ∨ X g) p.2 nd.2) :
    Bk base (w2.setCell ⟨B, 0, none⟩ v2) B (ns ++ [nd]) bs v2 vb (vs ++ [p]) X ∧ Only w (w2.setCell ⟨B, 0, none⟩ v2) (Foot B vn vb) ∧ (∀ g, g < w.heap.size → Foot B v2 vb g → Foot B vn vb g) := by
  have hB := (h.lt B (Or.inl rfl)).2
  have ho1 : Only w w2 (fun g => vn.ownBlock = some g) := Only.of_grown hg (fun g e => e)
  have hf : ∀ g, g < w.heap.size → Foot B v2 vb g → Foot B vn vb g := fun g hgl hF => by
    rcases hF with e | e | e
    · exact Or.inl e
    · rcases hat with e2 | e2
      · exact Or.inr (Or.inl (e2 ▸ e))
      · rw [e2] at e; injection e with e; omega
    · exact Or.inr (Or.inr e)
  have hs2 := hg.size
  have ho2 : Only w2 (w2.setCell ⟨B, 0, none⟩ v2) (fun g => g = B) := Only.of_set v2 rfl
  have ho : Only w (w2.setCell ⟨B, 0, none⟩ v2) (Foot B vn vb) := (ho1.mono (fun i _ e => Or.inr (Or.inl e))).trans ho2 (fun i _ e => Or.inl e)
  have snB : v2.ownBlock ≠ some B := fun e => by
    rcases hat with e2 | e2
    · exact h.sn (e2 ▸ e)
    · rw [e2] at e; injection e with e; omega
  have bc0 : w2.cell? ⟨B, 0, none⟩ = some vn := (ho1.cell hB h.sn).trans h.c0
  refine ⟨⟨World.cell?_setCell_same _ _ v2 bc0, ?_, ?_, ?_, h.low, ?_, by simp [h.len], fun j n0 q hj hq => ?_, ?_, snB, h.sb, fun g e => ?_⟩, ho, hf⟩
  · rw [World.cell?_setCell_other _ _ _ _ (fun e => by injection e with _ e _; cases e)]
    exact (ho1.cell hB h.sn).trans h.c1
  · rw [World.frozen?_setCell]; exact (ho1.frozen hB h.sn).trans h.z0
  · rw [World.frozen?_setCell]; exact (ho1.frozen hB h.sn).trans h.z1
  · rw [rowN2_snoc, show (ns ++ [nd]).length = ns.length + 1 from by simp]
    exact own_only hown ho2 (fun g e1 e2 => snB (e2 ▸ e1))
  · rcases Nat.lt_or_ge j ns.length with hlt | hge
    · rw [List.getElem?_append_left hlt] at hj
      rw [List.getElem?_append_left (by rw [h.len]; exact hlt)] at hq
      have := h.inner j n0 q hj hq
      exact ⟨this.1.only (ho.mono (fun _ _ h => Or.inl h)) (fun g hg h => h.imp (hf g hg) id), this.2.only (ho.mono (fun _ _ h => Or.inl h)) (fun g hg h => h.imp (hf g hg) id)⟩
    · have hj0 : j = ns.length := by have := get_lt hj; simp at this; omega
      subst hj0
      simp at hj
      rw [List.getElem?_append_right (by rw [h.len]; omega), h.len, Nat.sub_self] at hq
      simp at hq
      subst hj hq
      exact ⟨hp.1.only (ho.mono (fun _ _ h => Or.inl h)) (fun g hg h => h.imp (hf g hg) id), hp.2.only (ho.mono (fun _ _ h => Or.inl h)) (fun g hg h => h.imp (hf g hg) id)⟩
  · exact own_only (own_only h.born ho1 (fun g e1 e2 => h.snb g e2 e1)) ho2 (fun g e1 e2 => h.sb (e2 ▸ e1))
  · rcases hat with e2 | e2
    · exact h.snb g (e2 ▸ e)
    · intro e3
      rw [e2] at e
      injection e with e
      have := (h.lt g (Or.inr (Or.inr e3))).2
      omega
/-- a birthday put in -/
theorem Bk.pushB {base B : Nat} {w w2 : World} {ns : List Nd} {bs : List Nat} {vn vb v2 : Value} {vs : List (Value × Value)} {X : Nat → Prop} {x : Nat} (h : Bk base w B ns bs vn vb vs X) (hg : w.grownBy w2 vb.ownBlock)
    (hown : w2.ownsRow base 3 1 v2 (bs.length + 1) (bs.map iv ++ [iv x])) (hat : v2.ownBlock = vb.ownBlock ∨ v2.ownBlock = some w.heap.size) :
    Bk base (w2.setCell ⟨B, 1, none⟩ v2) B ns (bs ++ [x]) vn v2 vs X ∧ Only w (w2.setCell ⟨B, 1, none⟩ v2) (Foot B vn vb) ∧ (∀ g, g < w.heap.size → Foot B vn v2 g → Foot B vn vb g) := by
  have hB := (h.lt B (Or.inl rfl)).2
  have ho1 : Only w w2 (fun g => vb.ownBlock = some g) := Only.of_grown hg (fun g e => e)
  have hf : ∀ g, g < w.heap.size → Foot B vn v2 g → Foot B vn vb g := fun g hgl hF => by
    rcases hF with e | e | e
    · exact Or.inl e
    · exact Or.inr (Or.inl e)
    · rcases hat with e2 | e2
      · exact Or.inr (Or.inr (e2 ▸ e))
      · rw [e2] at e; injection e with e; omega
  have ho2 : Only w2 (w2.setCell ⟨B, 1, none⟩ v2) (fun g => g = B) := Only.of_set v2 rfl
  have ho : Only w (w2.setCell ⟨B, 1, none⟩ v2) (Foot B vn vb) := (ho1.mono (fun i _ e => Or.inr (Or.inr e))).trans ho2 (fun i _ e => Or.inl e)
  have snB : v2.ownBlock ≠ some B := fun e => by
    rcases hat with e2 | e2
    · exact h.sb (e2 ▸ e)
    · rw [e2] at e; injection e with e; omega
  have bc1 : w2.cell? ⟨B, 1, none⟩ = some vb := (ho1.cell hB h.sb).trans h.c1
  refine ⟨⟨?_, World.cell?_setCell_same _ _ v2 bc1, ?_, ?_, h.low, ?_, h.len, fun j n0 q hj hq => ?_, ?_, h.sn, snB, fun g e => ?_⟩, ho, hf⟩
  · rw [World.cell?_setCell_other _ _ _ _ (fun e => by injection e with _ e _; cases e)]
    exact (ho1.cell hB h.sb).trans h.c0
  · rw [World.frozen?_setCell]; exact (ho1.frozen hB h.sb).trans h.z0
  · rw [World.frozen?_setCell]; exact (ho1.frozen hB h.sb).trans h.z1
  · exact own_only (own_only h.nodes ho1 (fun g e1 e2 => h.snb g e1 e2)) ho2 (fun g e1 e2 => h.sn (e2 ▸ e1))
  · have := h.inner j n0 q hj hq
    exact ⟨this.1.only (ho.mono (fun _ _ h => Or.inl h)) (fun g hg h => h.imp (hf g hg) id), this.2.only (ho.mono (fun _ _ h => Or.inl h)) (fun g hg h => h.imp (hf g hg) id)⟩
  · rw [List.map_append, show (bs ++ [x]).length = bs.length + 1 from by simp]
    exact own_only hown ho2 (fun g e1 e2 => snB (e2 ▸ e1))
  · intro e3
    rcases hat with e2 | e2
    · exact h.snb g e (e2 ▸ e3)
    · rw [e2] at e3
      injection e3 with e3
      have := (h.lt g (Or.inr (Or.inl e))).2
      omega
/-- a node of a book, cell by cell -/
theorem Bk.node {base B : Nat} {w : World} {ns : List Nd} {bs : List Nat} {vn vb : Value} {vs : List (Value × Value)} {X : Nat → Prop} (h : Bk base w B ns bs vn vb vs X) {j : Nat} {nd : Nd} (hj : ns[j]? = some nd) :
    ∃ g c p, vn = .slice (some ⟨g, 0, none⟩) ns.length c ∧ vs[j]? = some p ∧ w.cell? ⟨g, j * 2, none⟩ = some p.1 ∧ w.cell? ⟨g, j * 2 + 1, none⟩ = some p.2 ∧ InnerZ w (fun g => Foot B vn vb g ∨ X g) p.1 nd.1 ∧ InnerZ w (fun g => Foot B vn vb g ∨ X g) p.2 nd.2 := by
  have hlt := get_lt hj
  obtain ⟨g, c, hv, _, _⟩ := h.nodes.form (by omega)
  obtain ⟨p, hp⟩ := lt_get (l := vs) (i := j) (by rw [h.len]; exact hlt)
  have hr := rowN2_at vs j p hp
  have hn := h.nodes
  rw [hv] at hn
  refine ⟨g, c, p, hv, hp, ?_, ?_, h.inner j nd p hj hp⟩
  · rw [World.ownsRow.cellAt hn (j * 2) (by omega)]; exact hr.1
  · rw [World.ownsRow.cellAt hn (j * 2 + 1) (by omega)]; exact hr.2
theorem Bk.birth {base B : Nat} {w : World} {ns : List Nd} {bs : List Nat} {vn vb : Value} {vs : List (Value × Value)} {X : Nat → Prop} (h : Bk base w B ns bs vn vb vs X) {j x : Nat} (hj : bs[j]? = some x) :
    ∃ g c, vb = .slice (some ⟨g, 0, none⟩) bs.length c ∧ w.cell? ⟨g, j, none⟩ = some (.int .i64 (x : Int)) := by
  have hlt := get_lt hj
  obtain ⟨g, c, hv, _, _⟩ := h.born.form (by omega)
  have hn := h.born
  rw [hv] at hn
  refine ⟨g, c, hv, ?_⟩
  rw [World.ownsRow.cellAt hn j (by omega), List.getElem?_map, hj]
  rfl
theorem InnerZ.ints {w : World} {F : Nat → Prop} {v : Value} {l : List Nat} (h : InnerZ w F v l) : IntsZ w 0 w.heap.size v (upL l) := by obtain ⟨_, _, _, _, _, _, h⟩ := h; exact h
/-- other blocks turned -/
theorem Bk.only {base B : Nat} {w w' : World} {ns : List Nd} {bs : List Nat} {vn vb : Value} {vs : List (Value × Value)} {X : Nat → Prop} (h : Bk base w B ns bs vn vb vs X) (ho : Only w w' X) (hd : ∀ g, Foot B vn vb g → ¬ X g) : Bk base w' B ns bs vn vb vs X := by
  have hB := (h.lt B (Or.inl rfl)).2
  have hx := hd B (Or.inl rfl)
  refine ⟨(ho.cell hB hx).trans h.c0, (ho.cell hB hx).trans h.c1, (ho.frozen hB hx).trans h.z0, (ho.frozen hB hx).trans h.z1, h.low, own_only h.nodes ho (fun g e => hd g (Or.inr (Or.inl e))), h.len, fun j nd p hj hp => ?_, own_only h.born ho (fun g e => hd g (Or.inr (Or.inr e))), h.sn, h.sb, h.snb⟩
  have := h.inner j nd p hj hp
  have ho2 : Only w w' (fun g => Foot B vn vb g ∨ X g) := ho.mono (fun _ _ h => Or.inr h)
  exact ⟨this.1.only ho2 (fun _ _ => id), this.2.only ho2 (fun _ _ => id)⟩
/-- other blocks to be shunned, which are new, or were shunned -/
theorem Bk.reX {base B : Nat} {w : World} {ns : List Nd} {bs : List Nat} {vn vb : Value} {vs : List (Value × Value)} {X Y : Nat → Prop} (h : Bk base w B ns bs vn vb vs X) (hY : ∀ g, g < w.heap.size → Y g → X g) : Bk base w B ns bs vn vb vs Y := by
  refine ⟨h.c0, h.c1, h.z0, h.z1, h.low, h.nodes, h.len, fun j nd p hj hp => ?_, h.born, h.sn, h.sb, h.snb⟩
  have := h.inner j nd p hj hp
  exact ⟨this.1.only (Only.refl w _) (fun g hg h => h.imp id (hY g hg)), this.2.only (Only.refl w _) (fun g hg h => h.imp id (hY g hg))⟩

end Go.Proofs.Ytabfdaofikccmaa
