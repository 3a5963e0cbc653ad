/- A game in a box of the law's own. -/
import Derived.Test.YtabfdaofikccmaaVSame
namespace Go.Proofs.Ytabfdaofikccmaa
open Go.RowKit
set_option linter.unusedVariables false
set_option linter.unusedSimpArgs false

/-- a box that holds a game -/
def BoxF (w : World) (D : Nat) (v : Value) (f : List Nz) : Prop := w.cell? ⟨D, 0, none⟩ = some v ∧ CopyOf w v f

theorem BoxF.step {w w' : World} {D : Nat} {v : Value} {f : List Nz} (h : BoxF w D v f) (hb : Below w.heap.size w w') : BoxF w' D v f := ⟨keepV h.1 hb, h.2.below hb⟩

theorem BoxF.new {w : World} {v : Value} {f : List Nz} (h : CopyOf w v f) (T : TypeId) : BoxF (w.alloc (.cells #[v] T)) w.heap.size v f := ⟨by go_simp, h.below ((Below.refl _ _).alloc (Nat.le_refl _) _)⟩

theorem copyOf_nodes {w : World} {lo : Nat} {v : Value} {f : List Nz} (h : NodesZ w lo w.heap.size v f) : CopyOf w v f := ⟨_, _, Nat.le_refl _, h⟩

theorem below_via {a W b : World} (h : Below a.heap.size a W) (g : Below W.heap.size W b) : Below a.heap.size a b := h.trans (g.mono h.size)

theorem below_new (w : World) (o : Obj) : Below w.heap.size w (w.alloc o) := (Below.refl _ _).alloc (Nat.le_refl _) _

theorem one_box {w : World} {v1 : Value} {f1 : List Nz} (h1 : CopyOf w v1 f1) (T : TypeId) :
    BoxF (w.alloc (.cells #[v1] T)) w.heap.size v1 f1 ∧ Below w.heap.size w (w.alloc (.cells #[v1] T)) := ⟨BoxF.new h1 T, below_new _ _⟩

theorem two_boxes {w : World} {v1 v2 : Value} {f1 f2 : List Nz} (h1 : CopyOf w v1 f1) (h2 : CopyOf w v2 f2) (T : TypeId) :
    BoxF ((w.alloc (.cells #[v1] T)).alloc (.cells #[v2] T)) w.heap.size v1 f1 ∧ BoxF ((w.alloc (.cells #[v1] T)).alloc (.cells #[v2] T)) (w.heap.size + 1) v2 f2 ∧ Below w.heap.size w ((w.alloc (.cells #[v1] T)).alloc (.cells #[v2] T)) := by
  have z : (w.alloc (.cells #[v1] T)).heap.size = w.heap.size + 1 := by simp
  have b := BoxF.new (h2.below (below_new w (.cells #[v1] T))) T
  rw [z] at b
  exact ⟨(BoxF.new h1 T).step (below_new _ _), b, below_via (below_new _ _) (below_new _ _)⟩

theorem three_boxes {w : World} {v1 v2 v3 : Value} {f1 f2 f3 : List Nz} (h1 : CopyOf w v1 f1) (h2 : CopyOf w v2 f2) (h3 : CopyOf w v3 f3) (T : TypeId) :
    BoxF (((w.alloc (.cells #[v1] T)).alloc (.cells #[v2] T)).alloc (.cells #[v3] T)) w.heap.size v1 f1 ∧ BoxF (((w.alloc (.cells #[v1] T)).alloc (.cells #[v2] T)).alloc (.cells #[v3] T)) (w.heap.size + 1) v2 f2 ∧ BoxF (((w.alloc (.cells #[v1] T)).alloc (.cells #[v2] T)).alloc (.cells #[v3] T)) (w.heap.size + 1 + 1) v3 f3 ∧ Below w.heap.size w (((w.alloc (.cells #[v1] T)).alloc (.cells #[v2] T)).alloc (.cells #[v3] T)) := by
  obtain ⟨a1, a2, a3⟩ := two_boxes h1 h2 T
  have z : ((w.alloc (.cells #[v1] T)).alloc (.cells #[v2] T)).heap.size = w.heap.size + 1 + 1 := by simp
  have b := BoxF.new (h3.below a3) T
  rw [z] at b
  exact ⟨a1.step (below_new _ _), a2.step (below_new _ _), b, below_via a3 (below_new _ _)⟩

/-- two boxes that hold the same game -/
theorem vSame_box {w : World} {v v' : Value} {f : List Nz} (h : CopyOf w v f) (h' : CopyOf w v' f) :
    Calls Try.prog 12 #[.agg #[v], .agg #[v']] w fun e w' => e = .returned (.bool true) ∧ Below w.heap.size w w' := by
  obtain ⟨lo, hi, hh, h⟩ := h
  obtain ⟨lo', hi', hh', h'⟩ := h'
  exact vSame_same v v' f w lo hi lo' hi' hh hh' h h'

end Go.Proofs.Ytabfdaofikccmaa
