/- Slices of whole numbers, and nodes and forms, as they lie in memory. -/
import Derived.Test.YtabfdaofikccmaaRows
import Derived.Test.YtabfdaofikccmaaFmGood
import Derived.WalkKit
import Derived.Lib.Hide
import Derived.WalkLawsBesides
import Derived.WalkSpells
import Derived.Outline
import Derived.Deep.QuietTactic
import Derived.BigQuiet
namespace Go.Proofs.Ytabfdaofikccmaa
open Go.RowKit
theorem ret_bool {a b : Bool} (h : a = b) : Ending.returned (.bool a) = .returned (.bool b) := by rw [h]
theorem ret_int {k : IntKind} {a b : Int} (h : a = b) : Ending.returned (.int k a) = .returned (.int k b) := by rw [h]
theorem block_of_cell {w : World} {b o : Nat} {v : Value} (h : w.cell? ⟨b, o, none⟩ = some v) : b < w.heap.size := by
  rcases Nat.lt_or_ge b w.heap.size with h1 | h1
  · exact h1
  · have h2 : w.heap[b]? = none := Array.getElem?_eq_none h1
    simp [World.cell?, h2] at h
theorem bcell {W w1 : World} {B : Nat} (hb : Below B W w1) (b o : Nat) (h : b < B) : w1.cell? ⟨b, o, none⟩ = W.cell? ⟨b, o, none⟩ := hb.cell (p := ⟨b, o, none⟩) h
theorem bcell2 {W w1 : World} {B : Nat} (hb : Below B W w1) : (∀ b o, b < B → w1.cell? ⟨b, o, none⟩ = W.cell? ⟨b, o, none⟩) ∧ (∀ b o, b < B → w1.frozen? ⟨b, o, none⟩ = W.frozen? ⟨b, o, none⟩) :=
  ⟨fun b o h => hb.cell (p := ⟨b, o, none⟩) h, fun b o h => hb.frozen (p := ⟨b, o, none⟩) h⟩
theorem below_drewN {B : Nat} {a w : World} (h : Below B a w) (n : Nat) : Below B a (w.drewN n) := ⟨h.os, h.tape, h.output, h.size, h.block⟩
/-- a slice, in blocks from lo to hi, that reads as these numbers -/
def IntsZ (w : World) (lo hi : Nat) (v : Value) (l : List Int) : Prop :=
  ∃ ao c, v = .slice ao l.length c ∧ (l.length ≤ c ∧ c ≤ 9223372036854775807) ∧ ∀ (j : Nat) (x : Int), l[j]? = some x → ∃ b off, ao = some ⟨b, off, none⟩ ∧ lo ≤ b ∧ b < hi ∧ w.cell? ⟨b, off + j, none⟩ = some (.int .i64 x)
/-- what holds the cells of the blocks from lo to hi -/
def SameIn (lo hi : Nat) (w w' : World) : Prop := ∀ b o, lo ≤ b → b < hi → w'.cell? ⟨b, o, none⟩ = w.cell? ⟨b, o, none⟩
theorem SameIn.trans {lo hi : Nat} {a b c : World} (h : SameIn lo hi a b) (g : SameIn lo hi b c) : SameIn lo hi a c := fun x o h1 h2 => (g x o h1 h2).trans (h x o h1 h2)
theorem SameIn.refl (lo hi : Nat) (a : World) : SameIn lo hi a a := fun _ _ _ _ => rfl
theorem Below.sameIn {B lo hi : Nat} {a b : World} (h : Below B a b) (hl : hi ≤ B) : SameIn lo hi a b := fun x o _ h2 => bcell h x o (by omega)
theorem sameIn_set {lo hi : Nat} (w : World) (p : Addr) (u : Value) (h : p.block < lo ∨ hi ≤ p.block) : SameIn lo hi w (w.setCell p u) := fun b o h1 h2 =>
  World.cell?_setCell_other w p _ u (fun e => by subst e; simp only at h; omega)
theorem IntsZ.keep {w w' : World} {lo hi : Nat} {v : Value} {l : List Int} (h : IntsZ w lo hi v l) (hs : SameIn lo hi w w') : IntsZ w' lo hi v l := by
  obtain ⟨ao, c, h1, h2, h3⟩ := h
  refine ⟨ao, c, h1, h2, fun j x hx => ?_⟩
  obtain ⟨b, off, e, hl, hh, hc⟩ := h3 j x hx
  exact ⟨b, off, e, hl, hh, (hs b _ hl hh).trans hc⟩
theorem IntsZ.setCell {w : World} {lo hi : Nat} {v : Value} {l : List Int} {p : Addr} {u : Value} (hp : p.block < lo ∨ hi ≤ p.block) (h : IntsZ w lo hi v l) : IntsZ (w.setCell p u) lo hi v l := h.keep (sameIn_set w p u hp)
theorem IntsZ.wide {w : World} {lo hi lo' hi' : Nat} {v : Value} {l : List Int} (h : IntsZ w lo hi v l) (h1 : lo' ≤ lo) (h2 : hi ≤ hi') : IntsZ w lo' hi' v l := by
  obtain ⟨ao, c, e1, e2, e3⟩ := h
  refine ⟨ao, c, e1, e2, fun j x hx => ?_⟩
  obtain ⟨b, off, e, hl, hh, hc⟩ := e3 j x hx
  exact ⟨b, off, e, by omega, by omega, hc⟩
theorem IntsZ.below {w w' : World} {lo hi B : Nat} {v : Value} {l : List Int} (h : IntsZ w lo hi v l) (hb : Below B w w') (hB : hi ≤ B) : IntsZ w' lo hi v l := h.keep (Below.sameIn hb hB)
/-- a slice of nodes -/
def NodesZ (w : World) (lo hi : Nat) (v : Value) (f : List Nz) : Prop :=
  ∃ ao c, v = .slice ao f.length c ∧ (f.length ≤ c ∧ c ≤ 9223372036854775807) ∧ ∀ (j : Nat) (nd : Nz), f[j]? = some nd → ∃ b off v1 v2, ao = some ⟨b, off, none⟩ ∧ lo ≤ b ∧ b < hi ∧
    w.cell? ⟨b, off + j * 2, none⟩ = some v1 ∧ w.cell? ⟨b, off + j * 2 + 1, none⟩ = some v2 ∧ IntsZ w lo hi v1 nd.1 ∧ IntsZ w lo hi v2 nd.2
theorem NodesZ.keep {w w' : World} {lo hi : Nat} {v : Value} {f : List Nz} (h : NodesZ w lo hi v f) (hs : SameIn lo hi w w') : NodesZ w' lo hi v f := by
  obtain ⟨ao, c, h1, h2, h3⟩ := h
  refine ⟨ao, c, h1, h2, fun j x hx => ?_⟩
  obtain ⟨b, off, v1, v2, e, hl, hh, c1, c2, i1, i2⟩ := h3 j x hx
  exact ⟨b, off, v1, v2, e, hl, hh, (hs b _ hl hh).trans c1, (hs b _ hl hh).trans c2, i1.keep hs, i2.keep hs⟩
theorem NodesZ.setCell {w : World} {lo hi : Nat} {v : Value} {f : List Nz} {p : Addr} {u : Value} (hp : p.block < lo ∨ hi ≤ p.block) (h : NodesZ w lo hi v f) : NodesZ (w.setCell p u) lo hi v f := h.keep (sameIn_set w p u hp)
theorem NodesZ.wide {w : World} {lo hi lo' hi' : Nat} {v : Value} {f : List Nz} (h : NodesZ w lo hi v f) (h1 : lo' ≤ lo) (h2 : hi ≤ hi') : NodesZ w lo' hi' v f := by
  obtain ⟨ao, c, e1, e2, e3⟩ := h
  refine ⟨ao, c, e1, e2, fun j x hx => ?_⟩
  obtain ⟨b, off, v1, v2, e, hl, hh, c1, c2, i1, i2⟩ := e3 j x hx
  exact ⟨b, off, v1, v2, e, by omega, by omega, c1, c2, i1.wide h1 h2, i2.wide h1 h2⟩
theorem NodesZ.below {w w' : World} {lo hi B : Nat} {v : Value} {f : List Nz} (h : NodesZ w lo hi v f) (hb : Below B w w') (hB : hi ≤ B) : NodesZ w' lo hi v f := h.keep (Below.sameIn hb hB)
end Go.Proofs.Ytabfdaofikccmaa
