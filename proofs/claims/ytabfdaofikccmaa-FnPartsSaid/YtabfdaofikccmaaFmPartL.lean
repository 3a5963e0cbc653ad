/- A set's has; a form of the call's own grows by a node; what the program's partOf makes, step by step, and how great it is. -/
import Derived.Test.YtabfdaofikccmaaFmPart
import Derived.Test.YtabfdaofikccmaaFmMarkN
import Derived.Test.YtabfdaofikccmaaFmFormP
import Derived.Test.YtabfdaofikccmaaFmSet
import Derived.Test.YtabfdaofikccmaaFmAt
import Derived.Test.YtabfdaofikccmaaFmLast
import Derived.Test.YtabfdaofikccmaaFmReach
import Derived.Test.YtabfdaofikccmaaFmToOwn
namespace Go.Proofs.Ytabfdaofikccmaa
section
open Go.RowKit
open Go.Maps (Keyed)
set_option linter.unusedVariables false
set_option linter.unusedSimpArgs false
theorem nodes_atP {w : World} {lo hi : Nat} {v : Value} {A : List Nd} (h : NodesZ w lo hi v (A.map upN)) {i : Nat} {nd : Nd} (hi' : A[i]? = some nd) :
    ∃ b off c v1 v2, v = .slice (some ⟨b, off, none⟩) A.length c ∧ b < hi ∧ w.cell? ⟨b, off + i * 2, none⟩ = some v1 ∧ w.cell? ⟨b, off + i * 2 + 1, none⟩ = some v2 ∧ IntsZ w lo hi v1 (upL nd.1) ∧ IntsZ w lo hi v2 (upL nd.2) := by
  obtain ⟨ao, c, rfl, _, h3⟩ := h
  obtain ⟨b, off, v1, v2, rfl, _, hb, p1, p2, i1, i2⟩ := h3 i (upN nd) (by rw [List.getElem?_map, hi']; rfl)
  exact ⟨b, off, c, v1, v2, by rw [List.length_map], hb, p1, p2, i1, i2⟩
theorem ints_lenP {w : World} {lo hi : Nat} {v : Value} {l : List Nat} (h : IntsZ w lo hi v (upL l)) : ∃ ao c, v = .slice ao l.length c ∧ (l.length ≤ c ∧ c ≤ 9223372036854775807) := by
  obtain ⟨ao, c, rfl, h2, _⟩ := h
  have : (upL l).length = l.length := by unfold upL; simp
  rw [this] at h2 ⊢
  exact ⟨ao, c, rfl, h2⟩
theorem ints_atP {w : World} {lo hi : Nat} {ao : Option Addr} {n c : Nat} {l : List Nat} (h : IntsZ w lo hi (.slice ao n c) (upL l)) {k x : Nat} (hx : l[k]? = some x) : ∃ b off, ao = some ⟨b, off, none⟩ ∧ b < hi ∧ w.cell? ⟨b, off + k, none⟩ = some (.int .i64 (x : Int)) := by
  obtain ⟨ao', c', e, _, h3⟩ := h
  injection e with e1 _ _
  subst e1
  obtain ⟨b, off, e, _, hb, hc⟩ := h3 k (x : Int) (by unfold upL; rw [List.getElem?_map, hx]; rfl)
  exact ⟨b, off, e, hb, hc⟩
theorem get_snoc {α : Type} {l : List α} {x y : α} {i : Nat} (h : (l ++ [x])[i]? = some y) : l[i]? = some y ∨ (i = l.length ∧ y = x) := by
  rcases Nat.lt_or_ge i l.length with h1 | h1
  · left
    rwa [List.getElem?_append_left h1] at h
  · right
    rw [List.getElem?_append_right h1] at h
    have h2 := get_lt h
    simp at h2
    have e : i = l.length := by omega
    subst e
    simp at h
    exact ⟨rfl, h.symm⟩
theorem OwnF.snoc {w w' : World} {base : Nat} {v v' : Value} {vs : List (Value × Value)} {f : List Nz} {p : Value × Value} {nd : Nz} (h : OwnF w base v vs f) (hg : w.grownBy w' v.ownBlock)
    (hn : w'.ownsRow base 57 2 v' (f.length + 1) (rowN2 vs ++ [p.1, p.2])) (hat : v'.ownBlock = v.ownBlock ∨ v'.ownBlock = some w.heap.size) (h1 : OwnI w base p.1 nd.1) (h2 : OwnI w base p.2 nd.2)
    (ha : Apart p.1 p.2) (hv1 : Apart v p.1) (hv2 : Apart v p.2) (hf : ∀ (i : Nat) (q : Value × Value), vs[i]? = some q → (Apart p.1 q.1 ∧ Apart p.1 q.2) ∧ (Apart p.2 q.1 ∧ Apart p.2 q.2)) : OwnF w' base v' (vs ++ [p]) (f ++ [nd]) := by
  have ho : Only w w' (fun b => v.ownBlock = some b) := Only.of_grown hg (fun g e => e)
  have keep : ∀ {u : Value} {l : List Int}, Apart v u → OwnI w base u l → OwnI w' base u l := fun ha hi => hi.only ho (fun g h1 h2 => ha g h2 h1)
  have far : ∀ {u : Value} {l : List Int}, Apart v u → OwnI w base u l → Apart v' u := fun ha hi g h1 h2 => by
    rcases hat with e | e
    · exact ha g (e ▸ h1) h2
    · rw [e] at h1
      injection h1 with h1
      have := hi.lt g h2
      omega
  refine ⟨by rw [rowN2_snoc, List.length_append]; exact hn, by simp [h.len], fun j n0 q hj hq => ?_, fun j q hq => ?_, fun i j q r hne hq hr => ?_⟩
  · rcases get_snoc hj with hj1 | ⟨ej, rfl⟩
    · rcases get_snoc hq with hq1 | ⟨eq, _⟩
      · have hl := h.list j n0 q hj1 hq1
        have ht := h.two j q hq1
        exact ⟨keep ht.2.1 hl.1, keep ht.2.2 hl.2⟩
      · exfalso
        have := get_lt hj1
        have := h.len
        omega
    · rcases get_snoc hq with hq1 | ⟨_, eq⟩
      · exfalso
        have := get_lt hq1
        have := h.len
        omega
      · rw [eq]
        exact ⟨keep hv1 h1, keep hv2 h2⟩
  · rcases get_snoc hq with hq1 | ⟨_, eq⟩
    · have ht := h.two j q hq1
      obtain ⟨n0, hn0⟩ := lt_get (l := f) (i := j) (by rw [← h.len]; exact get_lt hq1)
      have hl := h.list j n0 q hn0 hq1
      exact ⟨ht.1, far ht.2.1 hl.1, far ht.2.2 hl.2⟩
    · rw [eq]
      exact ⟨ha, far hv1 h1, far hv2 h2⟩
  · rcases get_snoc hq with hq1 | ⟨e1, e2⟩
    · rcases get_snoc hr with hr1 | ⟨e3, e4⟩
      · exact h.sep i j q r hne hq1 hr1
      · rw [e4]
        have := hf i q hq1
        exact ⟨this.1.1.symm, this.2.1.symm, this.1.2.symm, this.2.2.symm⟩
    · rcases get_snoc hr with hr1 | ⟨e3, e4⟩
      · rw [e2]
        have := hf j r hr1
        exact ⟨this.1.1, this.1.2, this.2.1, this.2.2⟩
      · exact absurd (e1.trans e3.symm) hne
theorem partN_no (f : List Nd) (need : Nat → Bool) (top k : Nat) (h : need k = false) : partN f need top (k + 1) = partN f need top k := by
  rw [partN]
  simp [h]
theorem partN_yes (f : List Nd) (need : Nat → Bool) (top k : Nat) (nd : Nd) (h : need k = true) (hk : f[k]? = some nd) (hu : ∀ x, x ∈ nd.1 ∨ x ∈ nd.2 → x < k) :
    (partN f need top (k + 1)).1 = (partN f need top k).1.set k (partN f need top k).2.length ∧ (partN f need top (k + 1)).2 = (partN f need top k).2 ++ [movd (fun x => ((partN f need top k).1.set k (partN f need top k).2.length).getD x 0) nd] := by
  have hg : f.getD k ([], []) = nd := by rw [List.getD_eq_getElem?_getD, hk]; rfl
  rw [partN]
  simp only [h, if_true, hg]
  refine ⟨trivial, ?_⟩
  rw [movd_congr (fun x => ((partN f need top k).1.set k (partN f need top k).2.length).getD x 0) (fun x => (partN f need top k).1.getD x 0) nd (fun x hx => getD_set_other _ _ _ _ (by have := hu x hx; omega))]
theorem partN_alen (f : List Nd) (need : Nat → Bool) (top : Nat) : ∀ k, (partN f need top k).1.length = top + 1
  | 0 => by simp [partN]
  | k + 1 => by
    rw [partN]
    split
    · rw [List.length_set]; exact partN_alen f need top k
    · exact partN_alen f need top k
theorem partN_llen (f : List Nd) (need : Nat → Bool) (top : Nat) : ∀ k, (partN f need top k).2.length ≤ k
  | 0 => by simp [partN]
  | k + 1 => by
    have ih := partN_llen f need top k
    rw [partN]
    split
    · rw [List.length_append, List.length_singleton]; omega
    · omega
theorem upL_set (l : List Nat) (i n : Nat) : (upL l).set i (n : Int) = upL (l.set i n) := by
  unfold upL
  rw [List.map_set]
theorem upL_len (l : List Nat) : (upL l).length = l.length := by unfold upL; simp
theorem own_eqp {g q n c : Nat} (e : (Value.slice (some ⟨g, 0, none⟩) n c).ownBlock = some q) : g = q := by injection e
theorem OwnF.nil (w : World) (base : Nat) : OwnF w base (.slice none 0 0) [] [] :=
  ⟨World.ownsRow_nil _ _ _ _, rfl, fun j nd p h => by simp at h, fun j p h => by simp at h, fun i j p q _ h => by simp at h⟩
theorem movd_small (p : Nat → Nat) (nd : Nd) (h : nd.1.length ≤ 24 ∧ nd.2.length ≤ 24) : (movd p nd).1.length ≤ 24 ∧ (movd p nd).2.length ≤ 24 := by
  have h1 := sortd_len (nd.1.map p)
  have h2 := sortd_len (nd.2.map p)
  rw [List.length_map] at h1 h2
  exact ⟨Nat.le_trans h1 h.1, Nat.le_trans h2 h.2⟩
end
section
open Go.RowKit
set_option linter.unusedVariables false
set_option linter.unusedSimpArgs false
/-- what partOf makes -/
def partI (f : List Nd) (top : Nat) : List Nd := (partN f (fun k => (reachF f top).getD k false) top (top + 1)).2
/-- a box that may be written -/
def BoxAt (w : World) (b : Nat) (v : Value) : Prop := w.cell? ⟨b, 0, none⟩ = some v ∧ w.frozen? ⟨b, 0, none⟩ = false
theorem BoxAt.block {w w' : World} {b : Nat} {v : Value} (h : BoxAt w b v) (hb : w'.heap[b]? = w.heap[b]?) : BoxAt w' b v :=
  ⟨(World.cell?_of_block (a := ⟨b, 0, none⟩) hb).trans h.1, (World.frozen?_of_block (a := ⟨b, 0, none⟩) hb).trans h.2⟩
theorem BoxAt.below {w w' : World} {b : Nat} {v : Value} (h : BoxAt w b v) (hb : Below w.heap.size w w') : BoxAt w' b v := h.block (hb.block b (block_of_cell h.1))
theorem BoxAt.grown {w w' : World} {b : Nat} {v : Value} {row : Option Nat} (h : BoxAt w b v) (hg : w.grownBy w' row) (hne : some b ≠ row) : BoxAt w' b v := h.block (hg.block b (block_of_cell h.1) hne)
theorem SetN.setCell {w : World} {b n : Nat} {S : Nat → Bool} (h : SetN w b n S) {p : Addr} (hp : b ≠ p.block) (u : Value) : SetN (w.setCell p u) b n S := by
  obtain ⟨D, h1, h2⟩ := h
  exact ⟨D, h1.setCell hp u, h2⟩
theorem BoxAt.only {w w' : World} {b : Nat} {v : Value} {F : Nat → Prop} (h : BoxAt w b v) (ho : Only w w' F) (hn : ¬ F b) : BoxAt w' b v := ⟨(ho.cell (block_of_cell h.1) hn).trans h.1, (ho.frozen (block_of_cell h.1) hn).trans h.2⟩
/-- the node is put in, its lists being new -/
theorem part_push {w5 wa wb w7 : World} {B2 P len cn g1 c1 g2 c2 n1 n2 d0 : Nat} {a : Option Addr} {vs : List (Value × Value)} {N : List Nz} {l1 l2 : List Int} {v7 : Value} (hF : OwnF w5 B2 (.slice a len cn) vs N) (hB : B2 ≤ w5.heap.size) (hP : P < B2)
    (hd : w5.heap.size ≤ d0) (ho1 : OwnI wa d0 (.slice (some ⟨g1, 0, none⟩) n1 c1) l1) (HBa : Below w5.heap.size w5 wa) (ho2 : OwnI wb wa.heap.size (.slice (some ⟨g2, 0, none⟩) n2 c2) l2) (hbb : Below wa.heap.size wa wb)
    (hown7 : w7.ownsRow B2 57 2 v7 (N.length + 1) (rowN2 vs ++ [.slice (some ⟨g1, 0, none⟩) n1 c1, .slice (some ⟨g2, 0, none⟩) n2 c2]))
    (hgrow7 : (wb.alloc (.cells #[.slice (some ⟨g1, 0, none⟩) n1 c1, .slice (some ⟨g2, 0, none⟩) n2 c2] 57)).grownBy w7 (Value.slice a len cn).ownBlock)
    (hat7 : v7.ownBlock = (Value.slice a len cn).ownBlock ∨ v7.ownBlock = some (wb.alloc (.cells #[.slice (some ⟨g1, 0, none⟩) n1 c1, .slice (some ⟨g2, 0, none⟩) n2 c2] 57)).heap.size) :
    Hid (OwnF (w7.setCell ⟨P, 0, none⟩ v7) B2 v7 (vs ++ [(.slice (some ⟨g1, 0, none⟩) n1 c1, .slice (some ⟨g2, 0, none⟩) n2 c2)]) (N ++ [(l1, l2)])) ∧ Only w5 w7 (fun b => B2 ≤ b) ∧ w5.heap.size ≤ w7.heap.size := by
  have HBb : Below w5.heap.size w5 wb := HBa.trans (hbb.mono HBa.size)
  have hal : Below wb.heap.size wb (wb.alloc (.cells #[.slice (some ⟨g1, 0, none⟩) n1 c1, .slice (some ⟨g2, 0, none⟩) n2 c2] 57)) := (Below.refl _ _).alloc (Nat.le_refl _) _
  have HBc := HBb.trans (hal.mono HBb.size)
  have hFc := hF.below HBc
  have t1 := ho1.lt g1 rfl
  have t2 := ho2.lt g2 rfl
  have hvb : ∀ g, (Value.slice a len cn).ownBlock = some g → g < w5.heap.size := fun g e => (World.ownsRow.lt hF.nodes g e).2
  have hlb : ∀ (i : Nat) (q : Value × Value), vs[i]? = some q → (∀ g, q.1.ownBlock = some g → g < w5.heap.size) ∧ (∀ g, q.2.ownBlock = some g → g < w5.heap.size) := fun i q hq => by
    obtain ⟨n0, hn0⟩ := lt_get (l := N) (i := i) (by rw [← hF.len]; exact get_lt hq)
    obtain ⟨i1, i2⟩ := hF.list i n0 q hn0 hq
    exact ⟨fun g e => (i1.lt g e).2, fun g e => (i2.lt g e).2⟩
  have o1 : (Value.slice (some ⟨g1, 0, none⟩) n1 c1).ownBlock = some g1 := rfl
  have o2 : (Value.slice (some ⟨g2, 0, none⟩) n2 c2).ownBlock = some g2 := rfl
  have hs := hFc.snoc (p := (.slice (some ⟨g1, 0, none⟩) n1 c1, .slice (some ⟨g2, 0, none⟩) n2 c2)) (nd := (l1, l2)) hgrow7 hown7 hat7 (((ho1.below hbb).below hal).mono (by omega)) ((ho2.below hal).mono (by have := HBa.size; omega))
    (fun g e1 e2 => by rw [o1] at e1; rw [o2] at e2; injection e1 with e1; injection e2 with e2; omega)
    (fun g e1 e2 => by rw [o1] at e2; injection e2 with e2; have := hvb g e1; omega)
    (fun g e1 e2 => by rw [o2] at e2; injection e2 with e2; have := hvb g e1; have := HBa.size; omega)
    (fun i q hq => ⟨⟨fun g e1 e2 => by rw [o1] at e1; injection e1 with e1; have := (hlb i q hq).1 g e2; omega, fun g e1 e2 => by rw [o1] at e1; injection e1 with e1; have := (hlb i q hq).2 g e2; omega⟩,
      ⟨fun g e1 e2 => by rw [o2] at e1; injection e1 with e1; have := (hlb i q hq).1 g e2; have := HBa.size; omega, fun g e1 e2 => by rw [o2] at e1; injection e1 with e1; have := (hlb i q hq).2 g e2; have := HBa.size; omega⟩⟩)
  have ho : Only w5 w7 (fun b => B2 ≤ b) := (Only.of_below (F := fun b => B2 ≤ b) HBc).trans (Only.of_grown (F := fun b => B2 ≤ b) hgrow7 (fun g e => (World.ownsRow.lt hF.nodes g e).1)) (fun _ _ h => h)
  exact ⟨Lib.hid (hs.setCell (by exact hP)), ho, ho.size⟩
theorem SetN.block {w w' : World} {b n : Nat} {S : Nat → Bool} (h : SetN w b n S) (hb : w'.heap[b]? = w.heap[b]?) : SetN w' b n S := by
  obtain ⟨D, ⟨es, clock, h1, h2⟩, h3⟩ := h
  exact ⟨D, ⟨es, clock, hb.trans h1, h2⟩, h3⟩
/-- what the next round begins with -/
theorem part_next {w w5 w7 : World} {B2 P gp len n : Nat} {v0 v7 vr : Value} {Q : List Int} {S : Nat → Bool} {sb rb : Nat} (o57 : Only w5 w7 (fun b => B2 ≤ b)) (hs52 : B2 ≤ w5.heap.size) (hP : P < B2) (hY : BoxAt w5 P v0)
    (hQ : OwnI w5 w.heap.size (.slice (some ⟨gp, 0, none⟩) len len) Q) (hgp : gp < B2) (hgP : gp ≠ P) (hS : SetN w5 sb n S) (hsb : sb < B2) (hsP : sb ≠ P) (hX : BoxAt w5 rb vr) (hrb : rb < B2) (hrP : rb ≠ P) (hB : Below w.heap.size w w5) (hwP : w.heap.size ≤ P) :
    BoxAt (w7.setCell ⟨P, 0, none⟩ v7) P v7 ∧ Hid (OwnI (w7.setCell ⟨P, 0, none⟩ v7) w.heap.size (.slice (some ⟨gp, 0, none⟩) len len) Q) ∧ Hid (SetN (w7.setCell ⟨P, 0, none⟩ v7) sb n S) ∧ Hid (Below w.heap.size w (w7.setCell ⟨P, 0, none⟩ v7)) ∧ B2 ≤ (w7.setCell ⟨P, 0, none⟩ v7).heap.size ∧ BoxAt (w7.setCell ⟨P, 0, none⟩ v7) rb vr := by
  have y7 := hY.only o57 (by omega)
  have x7 := hX.only o57 (by omega)
  have hz := o57.size
  have os : Only w7 (w7.setCell ⟨P, 0, none⟩ v7) (fun b => b = P) := Only.of_set _ rfl
  have hz0 := hB.size
  refine ⟨⟨World.cell?_setCell_same _ _ _ y7.1, ?_⟩, Lib.hid ?_, Lib.hid ?_, Lib.hid ?_, ?_, x7.only os hrP⟩
  · rw [World.frozen?_setCell]
    exact y7.2
  · exact (hQ.only o57 (fun g e h => by have := own_eqp e; omega)).setCell (fun e => hgP (own_eqp e))
  · exact (hS.block (o57.block sb (by omega) (by omega))).setCell (by exact hsP) _
  · exact (hB.trans (o57.below (by omega) (fun g h => by omega))).setCell (by exact hwP) _
  · simp
    omega
end

end Go.Proofs.Ytabfdaofikccmaa
