/- Worlds that a call leaves: what lay before is as it was, and a few blocks of the call's own hold what they hold. -/
import Derived.Test.YtlblkmhiildgeaaDoorDyBase
namespace Go.Proofs.YtlblkmhiildgeaaDoor
open Go.RowKit

theorem Below.drawn {B : Nat} {a w : World} (h : Below B a w) (n : Nat) : Below B a (w.drewN n) := ⟨h.os, h.tape, h.output, h.size, h.block⟩
theorem bcell {W w1 : World} (hb : Below W.heap.size W w1) : (∀ b o, b < W.heap.size → w1.cell? ⟨b, o, none⟩ = W.cell? ⟨b, o, none⟩) ∧ (∀ b o, b < W.heap.size → w1.frozen? ⟨b, o, none⟩ = W.frozen? ⟨b, o, none⟩) :=
  ⟨fun b o h => hb.cell (p := ⟨b, o, none⟩) h, fun b o h => hb.frozen (p := ⟨b, o, none⟩) h⟩

/-- two boxes of the call's own, and what lay before is as it was -/
def PairS (w : World) (v0 v1 v2 v3 : Value) (W : World) : Prop := W.cell? ⟨w.heap.size, 0, none⟩ = some v0 ∧ W.cell? ⟨w.heap.size, 1, none⟩ = some v1 ∧ W.cell? ⟨w.heap.size + 1, 0, none⟩ = some v2 ∧ W.cell? ⟨w.heap.size + 1, 1, none⟩ = some v3 ∧ w.heap.size + 1 < W.heap.size ∧ Below w.heap.size w W
theorem pair_start (w : World) (v0 v1 v2 v3 : Value) (t : TypeId) : PairS w v0 v1 v2 v3 ((w.alloc (.cells #[v0, v1] t)).alloc (.cells #[v2, v3] t)) := by
  refine ⟨?_, ?_, ?_, ?_, by simp, ((Below.refl _ _).alloc (Nat.le_refl _) _).alloc (by simp) _⟩
  · have e : ((w.alloc (.cells #[v0, v1] t)).alloc (.cells #[v2, v3] t)).heap = (w.heap.push (.cells #[v0, v1] t)).push (.cells #[v2, v3] t) := rfl
    simp [World.cell?, e, Array.getElem?_push]
  · have e : ((w.alloc (.cells #[v0, v1] t)).alloc (.cells #[v2, v3] t)).heap = (w.heap.push (.cells #[v0, v1] t)).push (.cells #[v2, v3] t) := rfl
    simp [World.cell?, e, Array.getElem?_push]
  all_goals
    have e := heap_alloc_new (w.alloc (.cells #[v0, v1] t)) (.cells #[v2, v3] t)
    rw [show (w.alloc (.cells #[v0, v1] t)).heap.size = w.heap.size + 1 by simp] at e
    simp only [World.cell?, e]
    rfl
theorem pair_drew {w W : World} {v0 v1 v2 v3 : Value} (h : PairS w v0 v1 v2 v3 W) : PairS w v0 v1 v2 v3 W.drew := ⟨h.1, h.2.1, h.2.2.1, h.2.2.2.1, h.2.2.2.2.1, h.2.2.2.2.2.drew⟩
theorem pair_next {w W w1 : World} {v0 v1 v2 v3 : Value} (hb : Below W.heap.size W w1) (h : PairS w v0 v1 v2 v3 W) : PairS w v0 v1 v2 v3 w1 := by
  obtain ⟨h0, h1, h2, h3, h4, h5⟩ := h
  have hz := hb.size
  have hlt : w.heap.size < W.heap.size := by omega
  exact ⟨(hb.cell (p := ⟨w.heap.size, 0, none⟩) hlt).trans h0, (hb.cell (p := ⟨w.heap.size, 1, none⟩) hlt).trans h1, (hb.cell (p := ⟨w.heap.size + 1, 0, none⟩) h4).trans h2, (hb.cell (p := ⟨w.heap.size + 1, 1, none⟩) h4).trans h3, by omega, h5.trans (hb.mono (by omega))⟩
/-- a cell that is there behind a store holds what was stored -/
theorem set_val {W : World} {b o : Nat} {v u : Value} (h : (W.setCell ⟨b, o, none⟩ v).cell? ⟨b, o, none⟩ = some u) : (W.setCell ⟨b, o, none⟩ v).cell? ⟨b, o, none⟩ = some v := by
  cases hc : W.cell? ⟨b, o, none⟩ with
  | some x => exact World.cell?_setCell_same _ _ _ hc
  | none =>
    exfalso
    unfold World.cell? at h hc
    simp only [World.setCell, Array.getElem?_modify, ↓reduceIte] at h
    cases hb : W.heap[b]? with
    | none => rw [hb] at h; simp at h
    | some x =>
      rw [hb] at h hc
      cases x with
      | cells c e f =>
        have hn : c.size ≤ o := by simpa using hc
        have h' : (c.setIfInBounds o v)[o]? = some u := h
        rw [Array.getElem?_eq_none (by simpa using hn)] at h'
        cases h'
      | _ => simp at h
/-- what a cell holds, under a name of its own -/
def curV (W : World) (b o : Nat) : Value := (W.cell? ⟨b, o, none⟩).getD (.bool false)
theorem curV_of {W : World} {b o : Nat} {v : Value} (h : W.cell? ⟨b, o, none⟩ = some v) : W.cell? ⟨b, o, none⟩ = some (curV W b o) := by
  unfold curV
  rw [h]
  rfl
/-- two boxes and the place of the answer -/
def TripS (w : World) (v0 v1 v2 v3 : Value) (W : World) : Prop := W.cell? ⟨w.heap.size, 0, none⟩ = some v0 ∧ W.cell? ⟨w.heap.size, 1, none⟩ = some v1 ∧ W.cell? ⟨w.heap.size + 1, 0, none⟩ = some v2 ∧ W.cell? ⟨w.heap.size + 1, 1, none⟩ = some v3 ∧ W.cell? ⟨w.heap.size + 2, 0, none⟩ = some (curV W (w.heap.size + 2) 0) ∧ W.cell? ⟨w.heap.size + 2, 1, none⟩ = some (curV W (w.heap.size + 2) 1) ∧ W.frozen? ⟨w.heap.size + 2, 0, none⟩ = false ∧ W.frozen? ⟨w.heap.size + 2, 1, none⟩ = false ∧ w.heap.size + 2 < W.heap.size ∧ Below w.heap.size w W
theorem trip_start (w : World) (v0 v1 v2 v3 : Value) (t : TypeId) : TripS w v0 v1 v2 v3 (((w.alloc (.cells #[v0, v1] t)).alloc (.cells #[v2, v3] t)).alloc (.cells #[.int .i64 0, .int .i64 0] t)) := by
  have hp := pair_start w v0 v1 v2 v3 t
  generalize hW : (w.alloc (.cells #[v0, v1] t)).alloc (.cells #[v2, v3] t) = W at hp ⊢
  have hz : W.heap.size = w.heap.size + 2 := by rw [← hW]; simp
  obtain ⟨h0, h1, h2, h3, h4, h5⟩ := hp
  have hb : Below W.heap.size W (W.alloc (.cells #[.int .i64 0, .int .i64 0] t)) := (Below.refl _ _).alloc (Nat.le_refl _) _
  have e := heap_alloc_new W (.cells #[.int .i64 0, .int .i64 0] t)
  rw [hz] at e
  have hlt : w.heap.size < W.heap.size := by omega
  refine ⟨(hb.cell (p := ⟨w.heap.size, 0, none⟩) hlt).trans h0, (hb.cell (p := ⟨w.heap.size, 1, none⟩) hlt).trans h1, (hb.cell (p := ⟨w.heap.size + 1, 0, none⟩) h4).trans h2, (hb.cell (p := ⟨w.heap.size + 1, 1, none⟩) h4).trans h3, ?_, ?_, ?_, ?_, by simp; omega, h5.alloc (by omega) _⟩
  · exact curV_of (v := .int .i64 0) (by simp only [World.cell?, e]; rfl)
  · exact curV_of (v := .int .i64 0) (by simp only [World.cell?, e]; rfl)
  · simp [World.frozen?, e]
  · simp [World.frozen?, e]
theorem trip_drew {w W : World} {v0 v1 v2 v3 : Value} (h : TripS w v0 v1 v2 v3 W) : TripS w v0 v1 v2 v3 W.drew := ⟨h.1, h.2.1, h.2.2.1, h.2.2.2.1, h.2.2.2.2.1, h.2.2.2.2.2.1, h.2.2.2.2.2.2.1, h.2.2.2.2.2.2.2.1, h.2.2.2.2.2.2.2.2.1, h.2.2.2.2.2.2.2.2.2.drew⟩
theorem trip_next {w W w1 : World} {v0 v1 v2 v3 : Value} (hb : Below W.heap.size W w1) (h : TripS w v0 v1 v2 v3 W) : TripS w v0 v1 v2 v3 w1 := by
  obtain ⟨h0, h1, h2, h3, h4, h5, h6, h7, h8, h9⟩ := h
  have hz := hb.size
  have hlt : w.heap.size < W.heap.size := by omega
  have hlt1 : w.heap.size + 1 < W.heap.size := by omega
  exact ⟨(hb.cell (p := ⟨w.heap.size, 0, none⟩) hlt).trans h0, (hb.cell (p := ⟨w.heap.size, 1, none⟩) hlt).trans h1, (hb.cell (p := ⟨w.heap.size + 1, 0, none⟩) hlt1).trans h2, (hb.cell (p := ⟨w.heap.size + 1, 1, none⟩) hlt1).trans h3,
    curV_of ((hb.cell (p := ⟨w.heap.size + 2, 0, none⟩) h8).trans h4), curV_of ((hb.cell (p := ⟨w.heap.size + 2, 1, none⟩) h8).trans h5), (hb.frozen (p := ⟨w.heap.size + 2, 0, none⟩) h8).trans h6, (hb.frozen (p := ⟨w.heap.size + 2, 1, none⟩) h8).trans h7, by omega, h9.trans (hb.mono (by omega))⟩
theorem trip_set {w W : World} {v0 v1 v2 v3 x y : Value} (h : TripS w v0 v1 v2 v3 W) : TripS w v0 v1 v2 v3 ((W.setCell ⟨w.heap.size + 2, 0, none⟩ x).setCell ⟨w.heap.size + 2, 1, none⟩ y) := by
  obtain ⟨h0, h1, h2, h3, h4, h5, h6, h7, h8, h9⟩ := h
  have far : ∀ b o v (W : World) k, b ≠ w.heap.size + 2 → (W.setCell ⟨w.heap.size + 2, k, none⟩ v).cell? ⟨b, o, none⟩ = W.cell? ⟨b, o, none⟩ := fun b o v W k hne => World.cell?_setCell_other _ _ _ _ (fun e => hne (by injection e with e' _; omega))
  have n01 : (⟨w.heap.size + 2, 1, none⟩ : Addr) ≠ ⟨w.heap.size + 2, 0, none⟩ := by intro e; injection e with _ e2; omega
  have n10 : (⟨w.heap.size + 2, 0, none⟩ : Addr) ≠ ⟨w.heap.size + 2, 1, none⟩ := by intro e; injection e with _ e2; omega
  refine ⟨?_, ?_, ?_, ?_, curV_of (v := x) ?_, curV_of (v := y) ?_, by rw [World.frozen?_setCell, World.frozen?_setCell]; exact h6, by rw [World.frozen?_setCell, World.frozen?_setCell]; exact h7, by simp; omega, (h9.setCell (by simp) _).setCell (by simp) _⟩
  · rw [far _ _ _ _ _ (by omega), far _ _ _ _ _ (by omega)]; exact h0
  · rw [far _ _ _ _ _ (by omega), far _ _ _ _ _ (by omega)]; exact h1
  · rw [far _ _ _ _ _ (by omega), far _ _ _ _ _ (by omega)]; exact h2
  · rw [far _ _ _ _ _ (by omega), far _ _ _ _ _ (by omega)]; exact h3
  · rw [World.cell?_setCell_other _ _ _ _ n01]; exact World.cell?_setCell_same _ _ _ h4
  · exact World.cell?_setCell_same _ _ _ ((World.cell?_setCell_other _ _ _ _ n10).trans h5)
theorem trip_alloc {w W : World} {v0 v1 v2 v3 : Value} {o : Obj} (h : TripS w v0 v1 v2 v3 W) : TripS w v0 v1 v2 v3 (W.alloc o) := trip_next ((Below.refl _ _).alloc (Nat.le_refl _) _) h
theorem trip_done {w W : World} {v0 v1 v2 v3 x y : Value} (h : TripS w v0 v1 v2 v3 ((W.setCell ⟨w.heap.size + 2, 0, none⟩ x).setCell ⟨w.heap.size + 2, 1, none⟩ y)) :
    ((W.setCell ⟨w.heap.size + 2, 0, none⟩ x).setCell ⟨w.heap.size + 2, 1, none⟩ y).cell? ⟨w.heap.size + 2, 0, none⟩ = some x ∧ ((W.setCell ⟨w.heap.size + 2, 0, none⟩ x).setCell ⟨w.heap.size + 2, 1, none⟩ y).cell? ⟨w.heap.size + 2, 1, none⟩ = some y ∧ Below w.heap.size w ((W.setCell ⟨w.heap.size + 2, 0, none⟩ x).setCell ⟨w.heap.size + 2, 1, none⟩ y) := by
  obtain ⟨_, _, _, _, h4, h5, _, _, _, h9⟩ := h
  have n01 : (⟨w.heap.size + 2, 1, none⟩ : Addr) ≠ ⟨w.heap.size + 2, 0, none⟩ := by intro e; injection e with _ e2; omega
  refine ⟨?_, set_val h5, h9⟩
  rw [World.cell?_setCell_other _ _ _ _ n01] at h4 ⊢
  exact set_val h4
theorem pair_alloc {w W : World} {v0 v1 v2 v3 : Value} {o : Obj} (h : PairS w v0 v1 v2 v3 W) : PairS w v0 v1 v2 v3 (W.alloc o) := pair_next ((Below.refl _ _).alloc (Nat.le_refl _) _) h
/-- two boxes, and a third block that holds x and y -/
def QuadS (w : World) (v0 v1 v2 v3 : Value) (g : Nat) (x y : Value) (W : World) : Prop := W.cell? ⟨w.heap.size, 0, none⟩ = some v0 ∧ W.cell? ⟨w.heap.size, 1, none⟩ = some v1 ∧ W.cell? ⟨w.heap.size + 1, 0, none⟩ = some v2 ∧ W.cell? ⟨w.heap.size + 1, 1, none⟩ = some v3 ∧ W.cell? ⟨g, 0, none⟩ = some x ∧ W.cell? ⟨g, 1, none⟩ = some y ∧ w.heap.size + 1 < W.heap.size ∧ g < W.heap.size ∧ Below w.heap.size w W
theorem quad_start {w W : World} {v0 v1 v2 v3 : Value} (x y : Value) (t : TypeId) (h : PairS w v0 v1 v2 v3 (W.alloc (.cells #[x, y] t))) : QuadS w v0 v1 v2 v3 W.heap.size x y (W.alloc (.cells #[x, y] t)) := by
  obtain ⟨h0, h1, h2, h3, h4, h5⟩ := h
  have e := heap_alloc_new W (.cells #[x, y] t)
  refine ⟨h0, h1, h2, h3, ?_, ?_, h4, by simp, h5⟩
  · simp only [World.cell?, e]; rfl
  · simp only [World.cell?, e]; rfl
theorem quad_drew {w W : World} {v0 v1 v2 v3 x y : Value} {g : Nat} (h : QuadS w v0 v1 v2 v3 g x y W) : QuadS w v0 v1 v2 v3 g x y W.drew := ⟨h.1, h.2.1, h.2.2.1, h.2.2.2.1, h.2.2.2.2.1, h.2.2.2.2.2.1, h.2.2.2.2.2.2.1, h.2.2.2.2.2.2.2.1, h.2.2.2.2.2.2.2.2.drew⟩
theorem quad_next {w W w1 : World} {v0 v1 v2 v3 x y : Value} {g : Nat} (hb : Below W.heap.size W w1) (h : QuadS w v0 v1 v2 v3 g x y W) : QuadS w v0 v1 v2 v3 g x y w1 := by
  obtain ⟨h0, h1, h2, h3, g0, g1, h4, h6, h5⟩ := h
  have hz := hb.size
  have hlt : w.heap.size < W.heap.size := by omega
  exact ⟨(hb.cell (p := ⟨w.heap.size, 0, none⟩) hlt).trans h0, (hb.cell (p := ⟨w.heap.size, 1, none⟩) hlt).trans h1, (hb.cell (p := ⟨w.heap.size + 1, 0, none⟩) h4).trans h2, (hb.cell (p := ⟨w.heap.size + 1, 1, none⟩) h4).trans h3, (hb.cell (p := ⟨g, 0, none⟩) h6).trans g0, (hb.cell (p := ⟨g, 1, none⟩) h6).trans g1, by omega, by omega, h5.trans (hb.mono (by omega))⟩
theorem quad_alloc {w W : World} {v0 v1 v2 v3 x y : Value} {g : Nat} {o : Obj} (h : QuadS w v0 v1 v2 v3 g x y W) : QuadS w v0 v1 v2 v3 g x y (W.alloc o) := quad_next ((Below.refl _ _).alloc (Nat.le_refl _) _) h
theorem below_swap {B : Nat} {w W : World} {o o' : Obj} (h : Below B w (W.alloc o)) (hlt : B ≤ W.heap.size) : Below B w (W.alloc o') := by
  refine ⟨h.os, h.tape, h.output, ?_, fun i hi => ?_⟩
  · have := h.size
    simpa using this
  · rw [← h.block i hi]
    have e1 : (W.alloc o').heap = W.heap.push o' := rfl
    have e2 : (W.alloc o).heap = W.heap.push o := rfl
    rw [e1, e2, Array.getElem?_push, Array.getElem?_push, if_neg (by omega), if_neg (by omega)]
theorem cell_swap {W : World} {o o' : Obj} {b k : Nat} {v : Value} (h : (W.alloc o).cell? ⟨b, k, none⟩ = some v) (hlt : b < W.heap.size) : (W.alloc o').cell? ⟨b, k, none⟩ = some v := by
  rw [World.cell?_alloc_lt _ _ _ hlt] at h ⊢
  exact h
theorem pair_swap {w W : World} {v0 v1 v2 v3 : Value} {o o' : Obj} (hlt : w.heap.size + 1 < W.heap.size) (h : PairS w v0 v1 v2 v3 (W.alloc o)) : PairS w v0 v1 v2 v3 (W.alloc o') := by
  obtain ⟨h0, h1, h2, h3, h4, h5⟩ := h
  exact ⟨cell_swap h0 (by omega), cell_swap h1 (by omega), cell_swap h2 hlt, cell_swap h3 hlt, by simp; omega, below_swap h5 (by omega)⟩
theorem quad_swap {w W : World} {v0 v1 v2 v3 x y : Value} {g : Nat} {o o' : Obj} (hlt : w.heap.size + 1 < W.heap.size) (hg : g < W.heap.size) (h : QuadS w v0 v1 v2 v3 g x y (W.alloc o)) : QuadS w v0 v1 v2 v3 g x y (W.alloc o') := by
  obtain ⟨h0, h1, h2, h3, g0, g1, h4, h6, h5⟩ := h
  exact ⟨cell_swap h0 (by omega), cell_swap h1 (by omega), cell_swap h2 hlt, cell_swap h3 hlt, cell_swap g0 hg, cell_swap g1 hg, by simp; omega, by simp; omega, below_swap h5 (by omega)⟩
theorem cell_far {W : World} {g k b o : Nat} {v : Value} (h : b ≠ g) : (W.setCell ⟨g, k, none⟩ v).cell? ⟨b, o, none⟩ = W.cell? ⟨b, o, none⟩ :=
  World.cell?_setCell_other _ _ _ _ (fun e => h (by injection e with e' _; omega))
theorem pair_far {w W : World} {v0 v1 v2 v3 x y : Value} {g : Nat} (hg : w.heap.size + 1 < g) (h : PairS w v0 v1 v2 v3 W) : PairS w v0 v1 v2 v3 ((W.setCell ⟨g, 0, none⟩ x).setCell ⟨g, 1, none⟩ y) := by
  obtain ⟨h0, h1, h2, h3, h4, h5⟩ := h
  refine ⟨?_, ?_, ?_, ?_, by simpa using h4, (h5.setCell (by show w.heap.size ≤ g; omega) _).setCell (by show w.heap.size ≤ g; omega) _⟩
  · rw [cell_far (by omega), cell_far (by omega)]; exact h0
  · rw [cell_far (by omega), cell_far (by omega)]; exact h1
  · rw [cell_far (by omega), cell_far (by omega)]; exact h2
  · rw [cell_far (by omega), cell_far (by omega)]; exact h3
theorem quad_done {w W : World} {v0 v1 v2 v3 x y u0 u1 : Value} {g : Nat} (hg : g < W.heap.size) (c0 : W.cell? ⟨g, 0, none⟩ = some u0) (c1 : W.cell? ⟨g, 1, none⟩ = some u1)
    (h : PairS w v0 v1 v2 v3 ((W.setCell ⟨g, 0, none⟩ x).setCell ⟨g, 1, none⟩ y)) : QuadS w v0 v1 v2 v3 g x y ((W.setCell ⟨g, 0, none⟩ x).setCell ⟨g, 1, none⟩ y) := by
  obtain ⟨h0, h1, h2, h3, h4, h5⟩ := h
  have n01 : (⟨g, 1, none⟩ : Addr) ≠ ⟨g, 0, none⟩ := by intro e; injection e with _ e2; omega
  have n10 : (⟨g, 0, none⟩ : Addr) ≠ ⟨g, 1, none⟩ := by intro e; injection e with _ e2; omega
  refine ⟨h0, h1, h2, h3, ?_, ?_, h4, by simpa using hg, h5⟩
  · rw [World.cell?_setCell_other _ _ _ _ n01]; exact World.cell?_setCell_same _ _ _ c0
  · exact World.cell?_setCell_same _ _ _ ((World.cell?_setCell_other _ _ _ _ n10).trans c1)
theorem quad_far {w W : World} {v0 v1 v2 v3 x y x' y' : Value} {g g' : Nat} (hg : w.heap.size + 1 < g') (hne : g < g') (h : QuadS w v0 v1 v2 v3 g x y W) : QuadS w v0 v1 v2 v3 g x y ((W.setCell ⟨g', 0, none⟩ x').setCell ⟨g', 1, none⟩ y') := by
  obtain ⟨h0, h1, h2, h3, g0, g1, h4, h6, h5⟩ := h
  refine ⟨?_, ?_, ?_, ?_, ?_, ?_, by simpa using h4, by simpa using h6, (h5.setCell (by show w.heap.size ≤ g'; omega) _).setCell (by show w.heap.size ≤ g'; omega) _⟩
  · rw [cell_far (by omega), cell_far (by omega)]; exact h0
  · rw [cell_far (by omega), cell_far (by omega)]; exact h1
  · rw [cell_far (by omega), cell_far (by omega)]; exact h2
  · rw [cell_far (by omega), cell_far (by omega)]; exact h3
  · rw [cell_far (by omega), cell_far (by omega)]; exact g0
  · rw [cell_far (by omega), cell_far (by omega)]; exact g1
/-- the place of the answer alone -/
def SoloS (w W : World) : Prop := W.cell? ⟨w.heap.size, 0, none⟩ = some (curV W w.heap.size 0) ∧ W.cell? ⟨w.heap.size, 1, none⟩ = some (curV W w.heap.size 1) ∧ W.frozen? ⟨w.heap.size, 0, none⟩ = false ∧ W.frozen? ⟨w.heap.size, 1, none⟩ = false ∧ w.heap.size < W.heap.size ∧ Below w.heap.size w W
theorem solo_start (w : World) (v0 v1 : Value) (t : TypeId) : SoloS w (w.alloc (.cells #[v0, v1] t)) := by
  have e := heap_alloc_new w (.cells #[v0, v1] t)
  refine ⟨curV_of (v := v0) ?_, curV_of (v := v1) ?_, ?_, ?_, by simp, (Below.refl _ _).alloc (Nat.le_refl _) _⟩
  · simp only [World.cell?, e]; rfl
  · simp only [World.cell?, e]; rfl
  · simp only [World.frozen?, e]; rfl
  · simp only [World.frozen?, e]; rfl
theorem solo_next {w W w1 : World} (hb : Below W.heap.size W w1) (h : SoloS w W) : SoloS w w1 := by
  obtain ⟨h0, h1, h2, h3, h4, h5⟩ := h
  have hz := hb.size
  exact ⟨curV_of ((hb.cell (p := ⟨w.heap.size, 0, none⟩) h4).trans h0), curV_of ((hb.cell (p := ⟨w.heap.size, 1, none⟩) h4).trans h1), (hb.frozen (p := ⟨w.heap.size, 0, none⟩) h4).trans h2, (hb.frozen (p := ⟨w.heap.size, 1, none⟩) h4).trans h3, by omega, h5.trans (hb.mono (by omega))⟩
theorem solo_alloc {w W : World} {o : Obj} (h : SoloS w W) : SoloS w (W.alloc o) := solo_next ((Below.refl _ _).alloc (Nat.le_refl _) _) h
theorem solo_drawn {w W : World} (h : SoloS w W) (n : Nat) : SoloS w (W.drewN n) := ⟨h.1, h.2.1, h.2.2.1, h.2.2.2.1, h.2.2.2.2.1, Below.drawn h.2.2.2.2.2 n⟩
/-- a cell that is there is as it was behind a call -/
theorem cell_on {W w1 : World} (hb : Below W.heap.size W w1) {b o : Nat} {v : Value} (h : W.cell? ⟨b, o, none⟩ = some v) : w1.cell? ⟨b, o, none⟩ = some v :=
  (hb.cell (p := ⟨b, o, none⟩) (World.block_lt_of_cell? W ⟨b, o, none⟩ h)).trans h
/-- one box of the call's own -/
def OneS (w : World) (v0 v1 : Value) (W : World) : Prop := W.cell? ⟨w.heap.size, 0, none⟩ = some v0 ∧ W.cell? ⟨w.heap.size, 1, none⟩ = some v1 ∧ w.heap.size < W.heap.size ∧ Below w.heap.size w W
theorem one_start (w : World) (v0 v1 : Value) (t : TypeId) : OneS w v0 v1 (w.alloc (.cells #[v0, v1] t)) := by
  refine ⟨?_, ?_, by simp, (Below.refl _ _).alloc (Nat.le_refl _) _⟩
  all_goals
    have e : (w.alloc (.cells #[v0, v1] t)).heap = w.heap.push (.cells #[v0, v1] t) := rfl
    simp [World.cell?, e]
theorem one_drew {w W : World} {v0 v1 : Value} (h : OneS w v0 v1 W) : OneS w v0 v1 W.drew := ⟨h.1, h.2.1, h.2.2.1, h.2.2.2.drew⟩
theorem one_next {w W w1 : World} {v0 v1 : Value} (hb : Below W.heap.size W w1) (h : OneS w v0 v1 W) : OneS w v0 v1 w1 := by
  obtain ⟨h0, h1, h4, h5⟩ := h
  have hz := hb.size
  exact ⟨(hb.cell (p := ⟨w.heap.size, 0, none⟩) h4).trans h0, (hb.cell (p := ⟨w.heap.size, 1, none⟩) h4).trans h1, by omega, h5.trans (hb.mono (by omega))⟩
end Go.Proofs.YtlblkmhiildgeaaDoor
