/- What the laws of forms share: boxes and copies that stay. -/
import Derived.Test.YtjllpcnbahdmhaaFmSz
import Derived.Test.YtjllpcnbahdmhaaFmTo
import Derived.Test.YtjllpcnbahdmhaaFmEq
import Derived.Deep.DeepCutAuto
namespace Go.Proofs.Ytjllpcnbahdmhaa
open Go.RowKit

/-- two cells at hand, from a world on -/
def TwoL (W : World) (b1 b2 : Nat) (v1 v2 : Value) (w' : World) : Prop := w'.cell? ⟨b1, 0, none⟩ = some v1 ∧ w'.cell? ⟨b2, 0, none⟩ = some v2 ∧ Below W.heap.size W w'

theorem twoL_next {W Wa w1 : World} {b1 b2 : Nat} {v1 v2 : Value} (l1 : b1 < W.heap.size) (l2 : b2 < W.heap.size) (hb : Below Wa.heap.size Wa w1) (h : TwoL W b1 b2 v1 v2 Wa) : TwoL W b1 b2 v1 v2 w1 := by
  obtain ⟨h1, h2, h3⟩ := h
  have hz := h3.size
  exact ⟨(bcell hb b1 _ (by omega)).trans h1, (bcell hb b2 _ (by omega)).trans h2, h3.trans (hb.mono hz)⟩

theorem twoL_start {W : World} {b1 b2 : Nat} {v1 v2 : Value} (h1 : W.cell? ⟨b1, 0, none⟩ = some v1) (h2 : W.cell? ⟨b2, 0, none⟩ = some v2) : TwoL W b1 b2 v1 v2 W.drew := ⟨h1, h2, below_drewN (Below.refl _ _) 1⟩

/-- a form, copied by the law, in any later world -/
def CopyOf (W : World) (v : Value) (f : List Nz) : Prop := ∃ lo hi, hi ≤ W.heap.size ∧ NodesZ W lo hi v f

theorem CopyOf.below {W W' : World} {v : Value} {f : List Nz} (h : CopyOf W v f) (hb : Below W.heap.size W W') : CopyOf W' v f := by
  obtain ⟨lo, hi, hh, h⟩ := h
  exact ⟨lo, hi, Nat.le_trans hh hb.size, h.below hb hh⟩

theorem toForm_copy (v : Value) (f : List Nz) (w : World) (hv : CopyOf w v f) (hl : szNs f ≤ 1048576) :
    Calls Try.prog 14 #[.agg #[v]] w fun e w' => ∃ a n c, e = .returned (.agg #[.slice a n c]) ∧ CopyOf w' (.slice a n c) f ∧ Below w.heap.size w w' := by
  obtain ⟨lo, hi, hh, h⟩ := hv
  exact (toForm_calls v f w lo hi hh h hl).mono fun _ _ ⟨a, n, c, he, hn, hb⟩ => ⟨a, n, c, he, ⟨_, _, Nat.le_refl _, hn⟩, hb⟩

theorem eqForm_copy (v v' : Value) (f : List Nz) (w : World) (h : CopyOf w v f) (h' : CopyOf w v' f) :
    Calls Try.prog 16 #[.agg #[v], .agg #[v']] w fun e w' => e = .returned (.bool true) ∧ Below w.heap.size w w' := by
  obtain ⟨lo, hi, hh, h⟩ := h
  obtain ⟨lo', hi', hh', h'⟩ := h'
  exact eqForm_same v v' f w lo hi lo' hi' hh hh' h h'

theorem szForm_copy (v : Value) (f : List Nz) (w : World) (m : Int) (h0 : 0 ≤ m) (h1 : m ≤ 1048576) (hv : CopyOf w v f) :
    Calls Try.prog 12 #[.agg #[v], .int .i64 m] w fun e w' => e = .returned (.int .i64 (leftOf m (szNs f))) ∧ Below w.heap.size w w' := by
  obtain ⟨lo, hi, hh, h⟩ := hv
  exact szForm_calls v f w lo hi hh m h0 h1 h

/-- four cells at hand -/
def FourL (W : World) (b1 b2 b3 b4 : Nat) (v1 v2 v3 v4 : Value) (w' : World) : Prop := w'.cell? ⟨b1, 0, none⟩ = some v1 ∧ w'.cell? ⟨b2, 0, none⟩ = some v2 ∧ w'.cell? ⟨b3, 0, none⟩ = some v3 ∧ w'.cell? ⟨b4, 0, none⟩ = some v4 ∧ Below W.heap.size W w'

theorem fourL_next {W Wa w1 : World} {b1 b2 b3 b4 : Nat} {v1 v2 v3 v4 : Value} (l1 : b1 < W.heap.size) (l2 : b2 < W.heap.size) (l3 : b3 < W.heap.size) (l4 : b4 < W.heap.size) (hb : Below Wa.heap.size Wa w1) (h : FourL W b1 b2 b3 b4 v1 v2 v3 v4 Wa) : FourL W b1 b2 b3 b4 v1 v2 v3 v4 w1 := by
  obtain ⟨h1, h2, h3, h4, h5⟩ := h
  have hz := h5.size
  exact ⟨(bcell hb b1 _ (by omega)).trans h1, (bcell hb b2 _ (by omega)).trans h2, (bcell hb b3 _ (by omega)).trans h3, (bcell hb b4 _ (by omega)).trans h4, h5.trans (hb.mono hz)⟩

theorem fourL_start {W : World} {b1 b2 b3 b4 : Nat} {v1 v2 v3 v4 : Value} (h1 : W.cell? ⟨b1, 0, none⟩ = some v1) (h2 : W.cell? ⟨b2, 0, none⟩ = some v2) (h3 : W.cell? ⟨b3, 0, none⟩ = some v3) (h4 : W.cell? ⟨b4, 0, none⟩ = some v4) : FourL W b1 b2 b3 b4 v1 v2 v3 v4 W.drew := ⟨h1, h2, h3, h4, below_drewN (Below.refl _ _) 1⟩

theorem fourL_drew {W W2 : World} {b1 b2 b3 b4 : Nat} {v1 v2 v3 v4 : Value} (h : FourL W b1 b2 b3 b4 v1 v2 v3 v4 W2) : FourL W b1 b2 b3 b4 v1 v2 v3 v4 W2.drew := ⟨h.1, h.2.1, h.2.2.1, h.2.2.2.1, below_drewN h.2.2.2.2 1⟩

end Go.Proofs.Ytjllpcnbahdmhaa
