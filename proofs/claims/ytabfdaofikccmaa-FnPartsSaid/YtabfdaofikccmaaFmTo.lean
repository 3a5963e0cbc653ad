/- laws.toForm and what it calls: a form is copied. -/
import Derived.Test.YtabfdaofikccmaaFmBase
import Derived.Deep.RegionHeld3
namespace Go.Proofs.Ytabfdaofikccmaa
set_option linter.unusedVariables false
set_option linter.unusedSimpArgs false
open Go.RowKit
theorem infoIntA : (Try.prog.info? 3).map (fun i => (i.zero, i.size, i.bytes)) = some (some (.int .i64 0), 1, 8) := by kernel_rfl
theorem grownBy_below' {w w' : World} (h : Below w.heap.size w w') (row : Option Nat) : w.grownBy w' row := ⟨h.os, h.tape, h.output, h.size, fun k hk _ => h.block k hk⟩
theorem made_one (z : Value) (n : Nat) : (madeCells #[z] n).toList = List.replicate n z := by
  apply List.ext_getElem
  · simp [madeCells]
  · intro i h1 h2
    simp [madeCells, Nat.mod_one]
theorem World.ownsRow.caps {w : World} {base : Nat} {e : TypeId} {size g n c : Nat} {xs : List Value} (h : w.ownsRow base e size (.slice (some ⟨g, 0, none⟩) n c) n xs) : n ≤ c ∧ c ≤ 9223372036854775807 := by
  rcases h.2 with ⟨h1, h0⟩ | ⟨g', cap, cur, hv, _, _, h2, h3, _⟩
  · cases h1
  · injection hv with _ _ hv
    subst hv
    exact ⟨h2, h3⟩
/-- a row of the call's own reads as its numbers -/
theorem ints_own {base g c : Nat} {w : World} {l : List Int} (h : w.ownsRow base 3 1 (.slice (some ⟨g, 0, none⟩) l.length c) l.length (l.map (Value.int .i64))) (hl : l.length ≤ 9223372036854775807) (hg : g < w.heap.size) :
    IntsZ w g (g + 1) (.slice (some ⟨g, 0, none⟩) l.length c) l := by
  refine ⟨_, _, rfl, World.ownsRow.caps h, fun j x hx => ⟨g, 0, rfl, Nat.le_refl _, by omega, ?_⟩⟩
  have hj := get_lt hx
  have h2 := h.cellAt j (by omega)
  rw [Nat.zero_add]
  rw [h2, List.getElem?_map, hx]
  rfl
theorem IntsZ.form {w : World} {lo hi : Nat} {v : Value} {l : List Int} (h : IntsZ w lo hi v l) : ∃ a n c, v = .slice a n c := by obtain ⟨a, c, h, _⟩ := h; exact ⟨a, _, c, h⟩
theorem infoNodeA : (Try.prog.info? 57).map (fun i => (i.zero, i.size, i.bytes)) = some (some (.agg #[.slice none 0 0, .slice none 0 0]), 2, 48) := by kernel_rfl
/-- nodes that are being copied into block g: k of them are there -/
def NodesTo (w0 : Nat) (f : List Nz) (k : Nat) (w : World) : Prop :=
  (∀ j, j < f.length → ∃ v1 v2, w.cell? ⟨w0, j * 2, none⟩ = some v1 ∧ w.cell? ⟨w0, j * 2 + 1, none⟩ = some v2 ∧ (j < k → ∀ nd, f[j]? = some nd → IntsZ w (w0 + 1) w.heap.size v1 nd.1 ∧ IntsZ w (w0 + 1) w.heap.size v2 nd.2)) ∧
  (∀ o, w.frozen? ⟨w0, o, none⟩ = false) ∧ w0 < w.heap.size
theorem NodesTo.below {w0 k : Nat} {f : List Nz} {w w' : World} (h : NodesTo w0 f k w) (hb : Below w.heap.size w w') : NodesTo w0 f k w' := by
  obtain ⟨h1, h2, h3⟩ := h
  have hz := hb.size
  refine ⟨fun j hj => ?_, fun o => ((bcell2 hb).2 w0 o h3).trans (h2 o), by omega⟩
  obtain ⟨v1, v2, c1, c2, h4⟩ := h1 j hj
  exact ⟨v1, v2, (bcell hb w0 _ h3).trans c1, (bcell hb w0 _ h3).trans c2, fun hk nd hnd => ⟨((h4 hk nd hnd).1.below hb (Nat.le_refl _)).wide (Nat.le_refl _) hz, ((h4 hk nd hnd).2.below hb (Nat.le_refl _)).wide (Nat.le_refl _) hz⟩⟩
theorem cell_set2 {w : World} {g a b : Nat} {u1 u2 v : Value} (hc : w.cell? ⟨g, a, none⟩ = some v) : ∃ v', ((w.setCell ⟨g, b, none⟩ u1).setCell ⟨g, b + 1, none⟩ u2).cell? ⟨g, a, none⟩ = some v' ∧ (a ≠ b → a ≠ b + 1 → v' = v) ∧ (a = b → v' = u1) ∧ (a = b + 1 → v' = u2) := by
  by_cases h1 : a = b + 1
  · subst h1
    refine ⟨u2, ?_, fun _ h => absurd rfl h, fun h => by omega, fun _ => rfl⟩
    have hc2 : (w.setCell ⟨g, b, none⟩ u1).cell? ⟨g, b + 1, none⟩ = some v := (World.cell?_setCell_other w _ _ u1 (fun e => by injection e with _ e _; omega)).trans hc
    exact World.cell?_setCell_same _ _ u2 hc2
  · by_cases h2 : a = b
    · subst h2
      refine ⟨u1, ?_, fun h => absurd rfl h, fun _ => rfl, fun h => by omega⟩
      rw [World.cell?_setCell_other _ _ _ u2 (fun e => by injection e with _ e _; omega)]
      exact World.cell?_setCell_same _ _ u1 hc
    · refine ⟨v, ?_, fun _ _ => rfl, fun h => absurd h h2, fun h => absurd h h1⟩
      rw [World.cell?_setCell_other _ _ _ u2 (fun e => by injection e with _ e _; omega), World.cell?_setCell_other _ _ _ u1 (fun e => by injection e with _ e _; omega)]
      exact hc
theorem NodesTo.put {w0 k : Nat} {f : List Nz} {w : World} {v1 v2 : Value} {nd : Nz} (h : NodesTo w0 f k w) (hk : f[k]? = some nd) (h1 : IntsZ w (w0 + 1) w.heap.size v1 nd.1) (h2 : IntsZ w (w0 + 1) w.heap.size v2 nd.2) :
    NodesTo w0 f (k + 1) ((w.setCell ⟨w0, k * 2, none⟩ v1).setCell ⟨w0, k * 2 + 1, none⟩ v2) := by
  obtain ⟨g1, g2, g3⟩ := h
  have hz : ((w.setCell ⟨w0, k * 2, none⟩ v1).setCell ⟨w0, k * 2 + 1, none⟩ v2).heap.size = w.heap.size := by simp
  have hs : ∀ {v l}, IntsZ w (w0 + 1) w.heap.size v l → IntsZ ((w.setCell ⟨w0, k * 2, none⟩ v1).setCell ⟨w0, k * 2 + 1, none⟩ v2) (w0 + 1) ((w.setCell ⟨w0, k * 2, none⟩ v1).setCell ⟨w0, k * 2 + 1, none⟩ v2).heap.size v l := fun hi => by
    rw [hz]
    exact IntsZ.setCell (Or.inl (Nat.lt_succ_self _)) (IntsZ.setCell (Or.inl (Nat.lt_succ_self _)) hi)
  refine ⟨fun j hj => ?_, fun o => by simpa using g2 o, by rw [hz]; exact g3⟩
  obtain ⟨x1, x2, c1, c2, h4⟩ := g1 j hj
  obtain ⟨y1, d1, n1, s1, _⟩ := cell_set2 (b := k * 2) (u1 := v1) (u2 := v2) c1
  obtain ⟨y2, d2, n2, _, s2⟩ := cell_set2 (b := k * 2) (u1 := v1) (u2 := v2) c2
  refine ⟨y1, y2, d1, d2, fun hjk nd' hnd' => ?_⟩
  by_cases e : j = k
  · subst e
    rw [hk] at hnd'
    injection hnd' with hnd'
    subst hnd'
    rw [s1 rfl, s2 rfl]
    exact ⟨hs h1, hs h2⟩
  · rw [n1 (by omega) (by omega), n2 (by omega) (by omega)]
    have := h4 (by omega) nd' hnd'
    exact ⟨hs this.1, hs this.2⟩
end Go.Proofs.Ytabfdaofikccmaa
