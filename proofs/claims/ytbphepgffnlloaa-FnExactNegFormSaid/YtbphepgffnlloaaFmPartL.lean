/- What the walks of nodes that are put in stand on. -/
import Derived.Test.YtbphepgffnlloaaFmPart
import Derived.Test.YtbphepgffnlloaaFmLast
import Derived.Test.YtbphepgffnlloaaFmReach
import Derived.Test.YtbphepgffnlloaaFmMark
import Derived.Test.YtbphepgffnlloaaFmSnoc
import Derived.Test.YtbphepgffnlloaaFmToOwn
import Derived.Test.YtbphepgffnlloaaFmFormP
namespace Go.Proofs.Ytbphepgffnlloaa
open Go.RowKit
set_option linter.unusedVariables false
set_option linter.unusedSimpArgs false

/-- what movedOptions makes -/
def MovedC : Prop := ∀ (vo vp : Value) (L Q : List Nat) (w : World) (lo hi lo' hi' : Nat), hi ≤ w.heap.size → hi' ≤ w.heap.size → IntsZ w lo hi vo (upL L) → IntsZ w lo' hi' vp (upL Q) → (∀ x ∈ L, x < Q.length) → L.length ≤ 1000 → Q.length ≤ 1000000 →
  Calls Try.prog 93 #[vo, vp] w fun e w' => ∃ g c, e = .returned (.slice (some ⟨g, 0, none⟩) (sortd (L.map (fun x => Q.getD x 0))).length c) ∧ OwnI w' w.heap.size (.slice (some ⟨g, 0, none⟩) (sortd (L.map (fun x => Q.getD x 0))).length c) (upL (sortd (L.map (fun x => Q.getD x 0)))) ∧ Below w.heap.size w w'

/-- what partOf makes -/
def partI (f : List Nd) (top : Nat) : List Nd := (partN f (fun k => (reachF f top).getD k false) top (top + 1)).2

/-- a box that may be written -/
def BoxAt (w : World) (b : Nat) (v : Value) : Prop := w.cell? ⟨b, 0, none⟩ = some v ∧ w.frozen? ⟨b, 0, none⟩ = false

theorem BoxAt.block {w w' : World} {b : Nat} {v : Value} (h : BoxAt w b v) (hb : w'.heap[b]? = w.heap[b]?) : BoxAt w' b v :=
  ⟨(World.cell?_of_block (a := ⟨b, 0, none⟩) hb).trans h.1, (World.frozen?_of_block (a := ⟨b, 0, none⟩) hb).trans h.2⟩
theorem BoxAt.below {w w' : World} {b : Nat} {v : Value} (h : BoxAt w b v) (hb : Below w.heap.size w w') : BoxAt w' b v := h.block (hb.block b (block_of_cell h.1))
theorem BoxAt.grown {w w' : World} {b : Nat} {v : Value} {row : Option Nat} (h : BoxAt w b v) (hg : w.grownBy w' row) (hne : some b ≠ row) : BoxAt w' b v := h.block (hg.block b (block_of_cell h.1) hne)

theorem SetN.setCell {w : World} {b n : Nat} {S : Nat → Bool} (h : SetN w b n S) {p : Addr} (hp : b ≠ p.block) (u : Value) : SetN (w.setCell p u) b n S := by
  obtain ⟨D, h1, h2⟩ := h
  exact ⟨D, h1.setCell hp u, h2⟩
theorem BoxAt.only {w w' : World} {b : Nat} {v : Value} {F : Nat → Prop} (h : BoxAt w b v) (ho : Only w w' F) (hn : ¬ F b) : BoxAt w' b v := ⟨(ho.cell (block_of_cell h.1) hn).trans h.1, (ho.frozen (block_of_cell h.1) hn).trans h.2⟩

/-- the node is put in, its lists being new -/
theorem part_push {w5 wa wb w7 : World} {B2 P len cn g1 c1 g2 c2 n1 n2 d0 : Nat} {a : Option Addr} {vs : List (Value × Value)} {N : List Nz} {l1 l2 : List Int} {v7 : Value} (hF : OwnF w5 B2 (.slice a len cn) vs N) (hB : B2 ≤ w5.heap.size) (hP : P < B2)
    (hd : w5.heap.size ≤ d0) (ho1 : OwnI wa d0 (.slice (some ⟨g1, 0, none⟩) n1 c1) l1) (HBa : Below w5.heap.size w5 wa) (ho2 : OwnI wb wa.heap.size (.slice (some ⟨g2, 0, none⟩) n2 c2) l2) (hbb : Below wa.heap.size wa wb)
    (hown7 : w7.ownsRow B2 63 2 v7 (N.length + 1) (rowN2 vs ++ [.slice (some ⟨g1, 0, none⟩) n1 c1, .slice (some ⟨g2, 0, none⟩) n2 c2]))
    (hgrow7 : (wb.alloc (.cells #[.slice (some ⟨g1, 0, none⟩) n1 c1, .slice (some ⟨g2, 0, none⟩) n2 c2] 63)).grownBy w7 (Value.slice a len cn).ownBlock)
    (hat7 : v7.ownBlock = (Value.slice a len cn).ownBlock ∨ v7.ownBlock = some (wb.alloc (.cells #[.slice (some ⟨g1, 0, none⟩) n1 c1, .slice (some ⟨g2, 0, none⟩) n2 c2] 63)).heap.size) :
    Hid (OwnF (w7.setCell ⟨P, 0, none⟩ v7) B2 v7 (vs ++ [(.slice (some ⟨g1, 0, none⟩) n1 c1, .slice (some ⟨g2, 0, none⟩) n2 c2)]) (N ++ [(l1, l2)])) ∧ Only w5 w7 (fun b => B2 ≤ b) ∧ w5.heap.size ≤ w7.heap.size := by
  have HBb : Below w5.heap.size w5 wb := HBa.trans (hbb.mono HBa.size)
  have hal : Below wb.heap.size wb (wb.alloc (.cells #[.slice (some ⟨g1, 0, none⟩) n1 c1, .slice (some ⟨g2, 0, none⟩) n2 c2] 63)) := (Below.refl _ _).alloc (Nat.le_refl _) _
  have HBc := HBb.trans (hal.mono HBb.size)
  have hFc := hF.below HBc
  have t1 := ho1.lt g1 rfl
  have t2 := ho2.lt g2 rfl
  have hvb : ∀ g, (Value.slice a len cn).ownBlock = some g → g < w5.heap.size := fun g e => (World.ownsRow.lt hF.nodes g e).2
  have hlb : ∀ (i : Nat) (q : Value × Value), vs[i]? = some q → (∀ g, q.1.ownBlock = some g → g < w5.heap.size) ∧ (∀ g, q.2.ownBlock = some g → g < w5.heap.size) := fun i q hq => by
    obtain ⟨n0, hn0⟩ := lt_get (l := N) (i := i) (by rw [← hF.len]; exact get_lt hq)
    obtain ⟨i1, i2⟩ := hF.list i n0 q hn0 hq
    exact ⟨fun g e => (i1.lt g e).2, fun g e => (i2.lt g e).2⟩
  have o1 : (Value.slice (some ⟨g1, 0, none⟩) n1 c1).ownBlock = some g1 := rfl
  have o2 : (Value.slice (some ⟨g2, 0, none⟩) n2 c2).ownBlock = some g2 := rfl
  have hs := hFc.snoc (p := (.slice (some ⟨g1, 0, none⟩) n1 c1, .slice (some ⟨g2, 0, none⟩) n2 c2)) (nd := (l1, l2)) hgrow7 hown7 hat7 (((ho1.below hbb).below hal).mono (by omega)) ((ho2.below hal).mono (by have := HBa.size; omega))
    (fun g e1 e2 => by rw [o1] at e1; rw [o2] at e2; injection e1 with e1; injection e2 with e2; omega)
    (fun g e1 e2 => by rw [o1] at e2; injection e2 with e2; have := hvb g e1; omega)
    (fun g e1 e2 => by rw [o2] at e2; injection e2 with e2; have := hvb g e1; have := HBa.size; omega)
    (fun i q hq => ⟨⟨fun g e1 e2 => by rw [o1] at e1; injection e1 with e1; have := (hlb i q hq).1 g e2; omega, fun g e1 e2 => by rw [o1] at e1; injection e1 with e1; have := (hlb i q hq).2 g e2; omega⟩,
      ⟨fun g e1 e2 => by rw [o2] at e1; injection e1 with e1; have := (hlb i q hq).1 g e2; have := HBa.size; omega, fun g e1 e2 => by rw [o2] at e1; injection e1 with e1; have := (hlb i q hq).2 g e2; have := HBa.size; omega⟩⟩)
  have ho : Only w5 w7 (fun b => B2 ≤ b) := (Only.of_below (F := fun b => B2 ≤ b) HBc).trans (Only.of_grown (F := fun b => B2 ≤ b) hgrow7 (fun g e => (World.ownsRow.lt hF.nodes g e).1)) (fun _ _ h => h)
  exact ⟨Lib.hid (hs.setCell (by exact hP)), ho, ho.size⟩

theorem SetN.block {w w' : World} {b n : Nat} {S : Nat → Bool} (h : SetN w b n S) (hb : w'.heap[b]? = w.heap[b]?) : SetN w' b n S := by
  obtain ⟨D, ⟨es, clock, h1, h2⟩, h3⟩ := h
  exact ⟨D, ⟨es, clock, hb.trans h1, h2⟩, h3⟩

/-- what the next round begins with -/
theorem part_next {w w5 w7 : World} {B2 P gp len n : Nat} {v0 v7 vr : Value} {Q : List Int} {S : Nat → Bool} {sb rb : Nat} (o57 : Only w5 w7 (fun b => B2 ≤ b)) (hs52 : B2 ≤ w5.heap.size) (hP : P < B2) (hY : BoxAt w5 P v0)
    (hQ : OwnI w5 w.heap.size (.slice (some ⟨gp, 0, none⟩) len len) Q) (hgp : gp < B2) (hgP : gp ≠ P) (hS : SetN w5 sb n S) (hsb : sb < B2) (hsP : sb ≠ P) (hX : BoxAt w5 rb vr) (hrb : rb < B2) (hrP : rb ≠ P) (hB : Below w.heap.size w w5) (hwP : w.heap.size ≤ P) :
    BoxAt (w7.setCell ⟨P, 0, none⟩ v7) P v7 ∧ Hid (OwnI (w7.setCell ⟨P, 0, none⟩ v7) w.heap.size (.slice (some ⟨gp, 0, none⟩) len len) Q) ∧ Hid (SetN (w7.setCell ⟨P, 0, none⟩ v7) sb n S) ∧ Hid (Below w.heap.size w (w7.setCell ⟨P, 0, none⟩ v7)) ∧ B2 ≤ (w7.setCell ⟨P, 0, none⟩ v7).heap.size ∧ BoxAt (w7.setCell ⟨P, 0, none⟩ v7) rb vr := by
  have y7 := hY.only o57 (by omega)
  have x7 := hX.only o57 (by omega)
  have hz := o57.size
  have os : Only w7 (w7.setCell ⟨P, 0, none⟩ v7) (fun b => b = P) := Only.of_set _ rfl
  have hz0 := hB.size
  refine ⟨⟨World.cell?_setCell_same _ _ _ y7.1, ?_⟩, Lib.hid ?_, Lib.hid ?_, Lib.hid ?_, ?_, x7.only os hrP⟩
  · rw [World.frozen?_setCell]
    exact y7.2
  · exact (hQ.only o57 (fun g e h => by have := own_eqp e; omega)).setCell (fun e => hgP (own_eqp e))
  · exact (hS.block (o57.block sb (by omega) (by omega))).setCell (by exact hsP) _
  · exact (hB.trans (o57.below (by omega) (fun g h => by omega))).setCell (by exact hwP) _
  · simp
    omega

end Go.Proofs.Ytbphepgffnlloaa
