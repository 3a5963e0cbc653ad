/- (*spec.l3Book).form: what its walk stands on. -/
import Derived.Test.YtabfdaofikccmaaFmFormC
import Derived.Deep.DeepCutAuto
import Derived.BigQuiet
import Derived.Deep.CutBlock
namespace Go.Proofs.Ytabfdaofikccmaa
set_option linter.unusedVariables false
set_option linter.unusedSimpArgs false
open Go.RowKit
def needF (ns : List Nd) (root : Nat) : Nat → Bool := fun k => (reachF ns root).getD k false
def fo (ns : List Nd) (root n : Nat) : List Nat × List Nd := formF (needF ns root) (bOf ns) ns root n
theorem own_form' {w : World} {base : Nat} {e : TypeId} {size : Nat} {v : Value} {n : Nat} {xs : List Value} (h : w.ownsRow base e size v n xs) : ∃ a c, v = .slice a n c := by
  rcases Nat.eq_zero_or_pos n with h0 | h0
  · subst h0
    rcases h.2 with ⟨h1, _⟩ | ⟨g, c, cs, h1, _⟩
    · exact ⟨_, _, h1⟩
    · exact ⟨_, _, h1⟩
  · obtain ⟨g, c, h1, _⟩ := h.form h0
    exact ⟨_, _, h1⟩
/-- the form that is being built -/
structure OutN (s O G : Nat) (w : World) (vo : Value) (vs : List (Value × Value)) (N : List Nd) : Prop where
  c0 : w.cell? ⟨O, 0, none⟩ = some vo
  z0 : w.frozen? ⟨O, 0, none⟩ = false
  lv : LvN s (fun b => b = O ∨ b = G ∨ vo.ownBlock = some b) w vo vs N
  so : vo.ownBlock ≠ some O
  sg : vo.ownBlock ≠ some G
theorem OutN.below {s O G : Nat} {w w' : World} {vo : Value} {vs : List (Value × Value)} {N : List Nd} (h : OutN s O G w vo vs N) (hb : Below w.heap.size w w') : OutN s O G w' vo vs N :=
  ⟨(bcell hb O 0 (block_of_cell h.c0)).trans h.c0, ((bcell2 hb).2 O 0 (block_of_cell h.c0)).trans h.z0, h.lv.below hb, h.so, h.sg⟩
theorem RowI.below {base g n : Nat} {l : List Nat} {w w' : World} (h : RowI base g n l w) (hb : Below w.heap.size w w') : RowI base g n l w' :=
  own_only h (Only.of_below (F := fun _ => False) hb) (fun _ _ => id)
/-- the nodes of one birthday among the first ones of a book -/
def lv (ns : List Nd) (root n m : Nat) : List Nd × List Nat := lvl (needF ns root) (bOf ns) ns (fun x => (fo ns root n).1.getD x 0) n m
theorem fo_succ (ns : List Nd) (root n : Nat) : fo ns root (n + 1) = (setAll (fo ns root n).1 (fo ns root n).2.length (lv ns root n (root + 1)).2, (fo ns root n).2 ++ (lv ns root n (root + 1)).1) := rfl
theorem lv_skip {ns : List Nd} {root n m : Nat} (h : needF ns root m = false ∨ bOf ns m ≠ n) : lv ns root n (m + 1) = lv ns root n m := by
  unfold lv
  rw [lvl, if_neg]
  intro e
  simp only [Bool.and_eq_true, beq_iff_eq] at e
  rcases h with h | h
  · rw [h] at e; exact Bool.noConfusion e.1
  · exact h e.2
theorem lv_put {ns : List Nd} {root n m : Nat} {nd : Nd} (h1 : needF ns root m = true) (h2 : bOf ns m = n) (h3 : ns[m]? = some nd) : lv ns root n (m + 1) = insNd (lv ns root n m) (movd (fun x => (fo ns root n).1.getD x 0) nd) m := by
  have e : ns.getD m ([], []) = nd := by rw [List.getD_eq_getElem?_getD, h3]; rfl
  unfold lv
  rw [lvl, if_pos (by simp [h1, h2]), e]
theorem lvN_nil {s : Nat} {w w' : World} (h : w = w') (hs : s ≤ w.heap.size) (o : Obj) : LvN s (fun _ => False) ((w'.alloc (.cells #[] 57)).alloc o) (.slice (some ⟨w.heap.size, 0, none⟩) 0 0) [] [] := by
  subst h
  refine ⟨World.ownsRow.alloc (World.ownsRow_lit w #[] 0 hs (by unfold maxLen; omega) rfl) o, rfl, fun j nd p hj => by simp at hj⟩
theorem LvN.nodesZ {s : Nat} {F : Nat → Prop} {w : World} {v : Value} {vs : List (Value × Value)} {L : List Nd} (h : LvN s F w v vs L) : NodesZ w s w.heap.size v (L.map upN) := by
  have hll : (L.map upN).length = L.length := List.length_map ..
  unfold NodesZ
  rw [hll]
  rcases Nat.eq_zero_or_pos L.length with h0 | h0
  · have hL : L = [] := List.length_eq_zero_iff.1 h0
    subst hL
    rcases h.nodes.2 with ⟨h1, _⟩ | ⟨g, c, cs, h1, _⟩
    · exact ⟨none, 0, h1, by simp, fun j nd hj => by simp at hj⟩
    · have hc := World.ownsRow.caps (h1 ▸ h.nodes)
      exact ⟨_, c, h1, hc, fun j nd hj => by simp at hj⟩
  · obtain ⟨g, c, hv, _, _⟩ := h.nodes.form h0
    have hn := h.nodes
    rw [hv] at hn
    have hlt := World.ownsRow.lt hn _ rfl
    refine ⟨_, c, hv, World.ownsRow.caps hn, fun j nd hj => ?_⟩
    rw [List.getElem?_map] at hj
    cases hx : L[j]? with
    | none => rw [hx] at hj; cases hj
    | some x =>
      rw [hx] at hj
      injection hj with hj
      subst hj
      have hjl := get_lt hx
      obtain ⟨p, hp⟩ := lt_get (l := vs) (i := j) (by rw [h.len]; exact hjl)
      have hr := rowN2_at vs j p hp
      obtain ⟨i1, i2⟩ := h.inner j x p hx hp
      refine ⟨g, 0, p.1, p.2, rfl, hlt.1, hlt.2, ?_, ?_, i1.ints, i2.ints⟩
      · rw [Nat.zero_add, World.ownsRow.cellAt hn (j * 2) (by omega)]; exact hr.1
      · rw [Nat.zero_add, World.ownsRow.cellAt hn (j * 2 + 1) (by omega)]; exact hr.2
theorem ints_narrow {s hi b o n c : Nat} {w : World} {l : List Int} (h : IntsZ w s hi (.slice (some ⟨b, o, none⟩) n c) l) : IntsZ w b (b + 1) (.slice (some ⟨b, o, none⟩) n c) l := by
  obtain ⟨ao, cc, e, hc, hn⟩ := h
  refine ⟨ao, cc, e, hc, fun j x hx => ?_⟩
  obtain ⟨b', o', e', g1, g2, g3⟩ := hn j x hx
  obtain ⟨q1, _, _⟩ : some (⟨b, o, none⟩ : Addr) = ao ∧ _ ∧ _ := by injection e with q1 q2 q3; exact ⟨q1, q2, q3⟩
  rw [e'] at q1
  injection q1 with q1
  injection q1 with q1 q2
  subst q1
  exact ⟨b, o', e', Nat.le_refl _, Nat.lt_succ_self _, g3⟩
theorem ints_past {b : Nat} {w w' : World} {v : Value} {l : List Int} (h : IntsZ w b (b + 1) v l) (o : Obj) (hb : Below (w.alloc o).heap.size (w.alloc o) w') (hlt : b < w.heap.size) : IntsZ w' b (b + 1) v l :=
  h.below (((Below.refl w.heap.size w).alloc (Nat.le_refl _) o).trans (hb.mono (by simp))) (by omega)
/-- the book's box and the node at hand -/
theorem ndS_next {W a b : World} {B gn j : Nat} {vn p1 p2 : Value} (hb : Below a.heap.size a b) (h : a.cell? ⟨B, 0, none⟩ = some vn ∧ a.cell? ⟨gn, j, none⟩ = some p1 ∧ a.cell? ⟨gn, j + 1, none⟩ = some p2 ∧ Below W.heap.size W a) :
    b.cell? ⟨B, 0, none⟩ = some vn ∧ b.cell? ⟨gn, j, none⟩ = some p1 ∧ b.cell? ⟨gn, j + 1, none⟩ = some p2 ∧ Below W.heap.size W b :=
  ⟨(bcell hb _ _ (block_of_cell h.1)).trans h.1, (bcell hb _ _ (block_of_cell h.2.1)).trans h.2.1, (bcell hb _ _ (block_of_cell h.2.2.1)).trans h.2.2.1, h.2.2.2.trans (hb.mono h.2.2.2.size)⟩
theorem ndS_re {W a : World} {o o' : Obj} {B gn j : Nat} {vn p1 p2 : Value} (h1 : B < W.heap.size) (h2 : gn < W.heap.size) (h3 : W.heap.size ≤ a.heap.size) (h : (a.alloc o).cell? ⟨B, 0, none⟩ = some vn ∧ (a.alloc o).cell? ⟨gn, j, none⟩ = some p1 ∧ (a.alloc o).cell? ⟨gn, j + 1, none⟩ = some p2 ∧ Below W.heap.size W (a.alloc o)) :
    (a.alloc o').cell? ⟨B, 0, none⟩ = some vn ∧ (a.alloc o').cell? ⟨gn, j, none⟩ = some p1 ∧ (a.alloc o').cell? ⟨gn, j + 1, none⟩ = some p2 ∧ Below W.heap.size W (a.alloc o') := by
  have k1 : Below a.heap.size a (a.alloc o) := (Below.refl _ _).alloc (Nat.le_refl _) _
  have k2 : Below a.heap.size a (a.alloc o') := (Below.refl _ _).alloc (Nat.le_refl _) _
  have key : ∀ b q u, b < W.heap.size → (a.alloc o).cell? ⟨b, q, none⟩ = some u → (a.alloc o').cell? ⟨b, q, none⟩ = some u := fun b q u hb hc => (bcell k2 b q (by omega)).trans ((bcell k1 b q (by omega)).symm.trans hc)
  have hB := h.2.2.2
  have hA : Below W.heap.size W a := ⟨hB.os, hB.tape, hB.output, h3, fun i hi => (Below.heap_alloc a o i (by omega)).symm.trans (hB.block i hi)⟩
  exact ⟨key _ _ _ h1 h.1, key _ _ _ h2 h.2.1, key _ _ _ h2 h.2.2.1, hA.alloc h3 _⟩
/-- a node's box that was just made -/
def NewBox (p : Nat) (w : World) : Prop := w.cell? ⟨p, 0, none⟩ = some (.slice none 0 0) ∧ w.cell? ⟨p, 1, none⟩ = some (.slice none 0 0) ∧ w.frozen? ⟨p, 0, none⟩ = false ∧ w.frozen? ⟨p, 1, none⟩ = false
theorem box_next {p : Nat} {w w' : World} (h : NewBox p w) (hb : Below w.heap.size w w') : NewBox p w' :=
  have l := block_of_cell h.1
  ⟨(bcell hb _ _ l).trans h.1, (bcell hb _ _ l).trans h.2.1, ((bcell2 hb).2 _ _ l).trans h.2.2.1, ((bcell2 hb).2 _ _ l).trans h.2.2.2⟩
theorem box_new (w : World) : NewBox w.heap.size (w.alloc (.cells #[.slice none 0 0, .slice none 0 0] 57)) := ⟨by go_simp, by go_simp, by go_simp, by go_simp⟩
theorem box_newd (w : World) : NewBox w.heap.size (w.alloc (.cells #[.slice none 0 0, .slice none 0 0] 57)).drew := ⟨by go_simp, by go_simp, by go_simp, by go_simp⟩
theorem ndS_set {W a : World} {B gn j p : Nat} {vn p1 p2 u1 u2 : Value} (h1 : B < W.heap.size) (h2 : gn < W.heap.size) (h3 : W.heap.size ≤ p) (h : a.cell? ⟨B, 0, none⟩ = some vn ∧ a.cell? ⟨gn, j, none⟩ = some p1 ∧ a.cell? ⟨gn, j + 1, none⟩ = some p2 ∧ Below W.heap.size W a) :
    ((a.setCell ⟨p, 0, none⟩ u1).setCell ⟨p, 1, none⟩ u2).cell? ⟨B, 0, none⟩ = some vn ∧ ((a.setCell ⟨p, 0, none⟩ u1).setCell ⟨p, 1, none⟩ u2).cell? ⟨gn, j, none⟩ = some p1 ∧ ((a.setCell ⟨p, 0, none⟩ u1).setCell ⟨p, 1, none⟩ u2).cell? ⟨gn, j + 1, none⟩ = some p2 ∧ Below W.heap.size W ((a.setCell ⟨p, 0, none⟩ u1).setCell ⟨p, 1, none⟩ u2) := by
  have key : ∀ b o u, b < W.heap.size → a.cell? ⟨b, o, none⟩ = some u → ((a.setCell ⟨p, 0, none⟩ u1).setCell ⟨p, 1, none⟩ u2).cell? ⟨b, o, none⟩ = some u := fun b o u hb hc => by
    rw [World.cell?_setCell_other _ _ _ u2 (fun e => by injection e with e _ _; omega), World.cell?_setCell_other _ _ _ u1 (fun e => by injection e with e _ _; omega)]
    exact hc
  exact ⟨key _ _ _ h1 h.1, key _ _ _ h2 h.2.1, key _ _ _ h2 h.2.2.1, (h.2.2.2.setCell h3 _).setCell h3 _⟩
theorem ints_set {X : World} {p b : Nat} {v u1 u2 : Value} {l : List Int} (h : IntsZ X b (b + 1) v l) (hne : p ≠ b) : IntsZ ((X.setCell ⟨p, 0, none⟩ u1).setCell ⟨p, 1, none⟩ u2) b (b + 1) v l := by
  have q : p < b ∨ b + 1 ≤ p := by omega
  exact IntsZ.setCell q (IntsZ.setCell q h)
/-- the node that was built: its box, its lists -/
def Built (wx : World) (D1 D2 : List Nat) (x : Value) (wy : World) : Prop := ∃ (p : Nat) (v1 v2 : Value), x = .pointer (some ⟨p, 0, none⟩) ∧ wy.cell? ⟨p, 0, none⟩ = some v1 ∧ wy.cell? ⟨p, 1, none⟩ = some v2 ∧ Hid (InL wx.heap.size (fun _ => False) wy v1 (sortd D1)) ∧ Hid (InL wx.heap.size (fun _ => False) wy v2 (sortd D2)) ∧ Hid (Below wx.heap.size wx wy)
theorem built_new {wx X : World} {D1 D2 : List Nat} {bb ob cb1 bd od cd : Nat} (I1 : IntsZ X bb (bb + 1) (.slice (some ⟨bb, ob, none⟩) (sortd D1).length cb1) (upL (sortd D1))) (I2 : IntsZ X bd (bd + 1) (.slice (some ⟨bd, od, none⟩) (sortd D2).length cd) (upL (sortd D2)))
    (h1 : wx.heap.size ≤ bb) (h2 : bb < X.heap.size) (h3 : wx.heap.size ≤ bd) (h4 : bd < X.heap.size) (t : TypeId)
    (hb : Below wx.heap.size wx (X.alloc (.cells #[.slice (some ⟨bb, ob, none⟩) (sortd D1).length cb1, .slice (some ⟨bd, od, none⟩) (sortd D2).length cd] t))) :
    Built wx D1 D2 (.pointer (some ⟨X.heap.size, 0, none⟩)) (X.alloc (.cells #[.slice (some ⟨bb, ob, none⟩) (sortd D1).length cb1, .slice (some ⟨bd, od, none⟩) (sortd D2).length cd] t)) :=
  ⟨_, _, _, rfl, by go_simp, by go_simp, Lib.hid ⟨bb, ob, cb1, rfl, h1, by simp; omega, id, I1.below ((Below.refl X.heap.size X).alloc (Nat.le_refl _) _) h2⟩, Lib.hid ⟨bd, od, cd, rfl, h3, by simp; omega, id, I2.below ((Below.refl X.heap.size X).alloc (Nat.le_refl _) _) h4⟩, Lib.hid hb⟩
theorem built_set {wx X : World} {D1 D2 : List Nat} {bb ob cb1 bd od cd p : Nat} (I1 : IntsZ X bb (bb + 1) (.slice (some ⟨bb, ob, none⟩) (sortd D1).length cb1) (upL (sortd D1))) (I2 : IntsZ X bd (bd + 1) (.slice (some ⟨bd, od, none⟩) (sortd D2).length cd) (upL (sortd D2)))
    (h1 : wx.heap.size ≤ bb) (h2 : bb < X.heap.size) (h3 : wx.heap.size ≤ bd) (h4 : bd < X.heap.size) (n1 : p ≠ bb) (n2 : p ≠ bd) (k0 : X.cell? ⟨p, 0, none⟩ = some (.slice none 0 0)) (k1 : X.cell? ⟨p, 1, none⟩ = some (.slice none 0 0))
    (hb : Below wx.heap.size wx ((X.setCell ⟨p, 0, none⟩ (.slice (some ⟨bb, ob, none⟩) (sortd D1).length cb1)).setCell ⟨p, 1, none⟩ (.slice (some ⟨bd, od, none⟩) (sortd D2).length cd))) :
    Built wx D1 D2 (.pointer (some ⟨p, 0, none⟩)) ((X.setCell ⟨p, 0, none⟩ (.slice (some ⟨bb, ob, none⟩) (sortd D1).length cb1)).setCell ⟨p, 1, none⟩ (.slice (some ⟨bd, od, none⟩) (sortd D2).length cd)) := by
  obtain ⟨y0, d0, _, s0, _⟩ := cell_set2 (a := 0) (b := 0) (u1 := .slice (some ⟨bb, ob, none⟩) (sortd D1).length cb1) (u2 := .slice (some ⟨bd, od, none⟩) (sortd D2).length cd) k0
  obtain ⟨y1, d1, _, _, s1⟩ := cell_set2 (a := 1) (b := 0) (u1 := .slice (some ⟨bb, ob, none⟩) (sortd D1).length cb1) (u2 := .slice (some ⟨bd, od, none⟩) (sortd D2).length cd) k1
  obtain rfl := s0 rfl
  obtain rfl := s1 rfl
  exact ⟨p, _, _, rfl, d0, d1, Lib.hid ⟨bb, ob, cb1, rfl, h1, by simpa using h2, id, ints_set I1 n1⟩, Lib.hid ⟨bd, od, cd, rfl, h3, by simpa using h4, id, ints_set I2 n2⟩, Lib.hid hb⟩
theorem foS_next {W a b : World} {g p j : Nat} {a1 a2 v1 v2 : Value} (hb : Below a.heap.size a b) (h : a.cell? ⟨g, j, none⟩ = some a1 ∧ a.cell? ⟨g, j + 1, none⟩ = some a2 ∧ a.cell? ⟨p, 0, none⟩ = some v1 ∧ a.cell? ⟨p, 1, none⟩ = some v2 ∧ Below W.heap.size W a) :
    b.cell? ⟨g, j, none⟩ = some a1 ∧ b.cell? ⟨g, j + 1, none⟩ = some a2 ∧ b.cell? ⟨p, 0, none⟩ = some v1 ∧ b.cell? ⟨p, 1, none⟩ = some v2 ∧ Below W.heap.size W b :=
  ⟨(bcell hb _ _ (block_of_cell h.1)).trans h.1, (bcell hb _ _ (block_of_cell h.2.1)).trans h.2.1, (bcell hb _ _ (block_of_cell h.2.2.1)).trans h.2.2.1, (bcell hb _ _ (block_of_cell h.2.2.2.1)).trans h.2.2.2.1, h.2.2.2.2.trans (hb.mono h.2.2.2.2.size)⟩
/-- a write to the row of places leaves the form alone -/
theorem OutN.only {s O G : Nat} {w w' : World} {vo : Value} {vs : List (Value × Value)} {N : List Nd} (h : OutN s O G w vo vs N) (ho : Only w w' (fun b => b = G)) (hne : O ≠ G) : OutN s O G w' vo vs N :=
  ⟨(ho.cell (block_of_cell h.c0) hne).trans h.c0, (ho.frozen (block_of_cell h.c0) hne).trans h.z0, h.lv.only ho (fun g e1 e2 => h.sg (e2 ▸ e1)) (fun b _ _ hb => ⟨fun e => hb (Or.inr (Or.inl e)), hb⟩), h.so, h.sg⟩
/-- a node goes out: its row is appended to, and the form's cell written -/
theorem OutN.push {s O G : Nat} {w w2 : World} {vo v2 : Value} {vs : List (Value × Value)} {N : List Nd} {p : Value × Value} {nd : Nd} (h : OutN s O G w vo vs N) (hg : w.grownBy w2 vo.ownBlock)
    (hown : w2.ownsRow s 57 2 v2 (N.length + 1) (rowN2 vs ++ [p.1, p.2])) (hat : v2.ownBlock = vo.ownBlock ∨ v2.ownBlock = some w.heap.size) (hG : G < w.heap.size)
    (hp : InL s (fun b => b = O ∨ b = G ∨ vo.ownBlock = some b) w p.1 nd.1 ∧ InL s (fun b => b = O ∨ b = G ∨ vo.ownBlock = some b) w p.2 nd.2) :
    OutN s O G (w2.setCell ⟨O, 0, none⟩ v2) v2 (vs ++ [p]) (N ++ [nd]) ∧ Only w (w2.setCell ⟨O, 0, none⟩ v2) (fun b => b = O ∨ vo.ownBlock = some b) := by
  have hO := block_of_cell h.c0
  have ho1 : Only w w2 (fun g => vo.ownBlock = some g) := Only.of_grown hg (fun g e => e)
  have hs2 := hg.size
  have ho2 : Only w2 (w2.setCell ⟨O, 0, none⟩ v2) (fun g => g = O) := Only.of_set v2 rfl
  have ho : Only w (w2.setCell ⟨O, 0, none⟩ v2) (fun b => b = O ∨ vo.ownBlock = some b) := (ho1.mono (fun i _ e => Or.inr e)).trans ho2 (fun i _ e => Or.inl e)
  have key : ∀ b, b < w.heap.size → vo.ownBlock ≠ some b → v2.ownBlock ≠ some b := fun b hb hn e => by
    rcases hat with e2 | e2
    · exact hn (e2 ▸ e)
    · rw [e2] at e; injection e with e; omega
  have so := key O hO h.so
  have bc0 : w2.cell? ⟨O, 0, none⟩ = some vo := (ho1.cell hO h.so).trans h.c0
  have hin : ∀ v l, InL s (fun b => b = O ∨ b = G ∨ vo.ownBlock = some b) w v l → InL s (fun b => b = O ∨ b = G ∨ v2.ownBlock = some b) (w2.setCell ⟨O, 0, none⟩ v2) v l := fun v l hv =>
    hv.only ho (Nat.le_refl _) (fun b _ hb hn => ⟨fun e => hn (e.elim Or.inl (fun e => Or.inr (Or.inr e))), fun e => by
      rcases e with e | e | e
      · exact hn (Or.inl e)
      · exact hn (Or.inr (Or.inl e))
      · exact key b hb (fun e2 => hn (Or.inr (Or.inr e2))) e⟩)
  refine ⟨⟨World.cell?_setCell_same _ _ v2 bc0, by rw [World.frozen?_setCell]; exact (ho1.frozen hO h.so).trans h.z0, ⟨?_, by simp [h.lv.len], fun j n0 q hj hq => ?_⟩, so, key G hG h.sg⟩, ho⟩
  · rw [rowN2_snoc, show (N ++ [nd]).length = N.length + 1 from by simp]
    exact own_only hown ho2 (fun g e1 e2 => so (e2 ▸ e1))
  · rcases Nat.lt_or_ge j N.length with hlt | hge
    · rw [List.getElem?_append_left hlt] at hj
      rw [List.getElem?_append_left (by rw [h.lv.len]; exact hlt)] at hq
      have := h.lv.inner j n0 q hj hq
      exact ⟨hin _ _ this.1, hin _ _ this.2⟩
    · have hj0 : j = N.length := by have := get_lt hj; simp at this; omega
      subst hj0
      simp at hj
      rw [List.getElem?_append_right (by rw [h.lv.len]; omega), h.lv.len, Nat.sub_self] at hq
      simp at hq
      subst hj hq
      exact ⟨hin _ _ hp.1, hin _ _ hp.2⟩
/-- an append of one node, at a step of a region that draws; and where it lies -/
theorem step_app_nd_at {ops : Array Oper} {o : Oper} {a : Act} {w : World} {K : Act → World → Prop} {Q : Exit → Act → World → Prop} {E : Prop} (hgd : o.guard = none) (s x : Operand)
    (ho : o.op = .call { callee := .builtin .append, args := #[s, x], argTypes := #[26, 26] })
    {base : Nat} {v : Value} {n : Nat} {xs : List Value} (hown : w.ownsRow base 57 2 v n xs) (hs : a.eval s = v) {y : Value} {m : Nat} {news : List Value} (hsrc : SrcN w y m news) (hx : a.eval x = y)
    (hsmall : n + m ≤ 3000000) (hbase : base ≤ w.heap.size)
    (h : ∀ v' w', w'.ownsRow base 57 2 v' (n + m) (xs ++ news) → w.grownBy w' v.ownBlock → (v'.ownBlock = v.ownBlock ∨ v'.ownBlock = some w.heap.size) → K (a.put o.dst v') w') :
    if Region.wanted o (yielded ops a.tmps) = true then Oper.wp Try.prog o a w K Q else E := by
  obtain ⟨i0, hi0, hz0, hz1, hz2⟩ := info_parts infoNodeA
  have hw : Region.wanted o (yielded ops a.tmps) = true := by simp [Region.wanted, hgd]
  rw [if_pos hw]
  obtain ⟨hl, h1, ad, c, rfl, hc⟩ := hsrc
  obtain ⟨v', w', hr, h2, h3, _, h5⟩ := run_append_own_at (P := Try.prog) w base 26 o.type 57 i0 (.agg #[.slice none 0 0, .slice none 0 0]) 2 48 Try.underlying26 hi0 hz0 hz1 hz2 rfl (by decide) v n xs hown ad m c news (by rw [hl]) hc h1 (by unfold maxLen; omega) (by omega) hbase
  unfold Oper.wp execOp
  simp only [ho, resolve, invoke, builtin, Sem.run_bind, Sem.run_pure, Result.andThen_ok, List.map_toArray, List.map_cons, List.map_nil, hs, hx, hr]
  exact h v' w' h2 h3 h5
theorem setAll_take (A : List Nat) (m i : Nat) (fr : List Nat) (x : Nat) (h : fr[i]? = some x) : setAll A m (fr.take (i + 1)) = (setAll A m (fr.take i)).set x (m + i) := by
  have hi := get_lt h
  rw [List.take_succ_eq_append_getElem hi, setAll_snoc]
  rw [List.getElem?_eq_getElem hi] at h
  injection h with h
  rw [h, List.length_take, Nat.min_eq_left (by omega)]
theorem take_next {α : Type} (N L : List α) (i : Nat) (x : α) (h : L[i]? = some x) : N ++ L.take (i + 1) = (N ++ L.take i) ++ [x] := by
  have hi := get_lt h
  rw [List.take_succ_eq_append_getElem hi]
  rw [List.getElem?_eq_getElem hi] at h
  injection h with h
  rw [h, List.append_assoc]
/-- the form is through: the nodes' row is the call's own, the lists lie apart from it -/
theorem LvN.fin {s s' O : Nat} {F : Nat → Prop} {w : World} {v : Value} {vs : List (Value × Value)} {L : List Nd} (h : LvN s F w v vs L) (hO : O < s) (hs : s' ≤ s) (hF : ∀ b, v.ownBlock = some b → F b) (u : Value) :
    LvN s' (fun b => v.ownBlock = some b) (w.setCell ⟨O, 0, none⟩ u) v vs L := by
  have ho : Only w (w.setCell ⟨O, 0, none⟩ u) (fun b => b = O) := Only.of_set (F := fun b => b = O) u rfl
  have hG : ∀ b, s ≤ b → b < w.heap.size → ¬ F b → ¬ b = O ∧ ¬ v.ownBlock = some b := fun b hb _ hf => ⟨by omega, fun e => hf (hF b e)⟩
  exact ⟨World.ownsRow.mono (own_only h.nodes ho (fun g hg e => by have := (World.ownsRow.lt h.nodes g hg).1; omega)) hs, h.len, fun j nd p h1 h2 => ⟨(h.inner j nd p h1 h2).1.only ho hs hG, (h.inner j nd p h1 h2).2.only ho hs hG⟩⟩

end Go.Proofs.Ytabfdaofikccmaa
