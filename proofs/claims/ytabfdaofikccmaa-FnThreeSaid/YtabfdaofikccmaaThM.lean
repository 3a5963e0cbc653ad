/- Three games put together by the law: boxes in any order, the list of them. -/
import Derived.Test.YtabfdaofikccmaaBoxF
import Derived.Test.YtabfdaofikccmaaSpAll
import Derived.Test.YtabfdaofikccmaaSqAll
namespace Go.Proofs.Ytabfdaofikccmaa
open Go.RowKit
set_option linter.unusedVariables false
set_option linter.unusedSimpArgs false

theorem formsZ_three {w : World} {v1 v2 v3 : Value} {f1 f2 f3 : List Nz} (h1 : CopyOf w v1 f1) (h2 : CopyOf w v2 f2) (h3 : CopyOf w v3 f3) (T : TypeId) :
    FormsZ (w.alloc (.cells #[v1, v2, v3] T)) 0 (w.alloc (.cells #[v1, v2, v3] T)).heap.size (.slice (some ⟨w.heap.size, 0, none⟩) 3 3) [f1, f2, f3] := by
  have hb := below_new w (.cells #[v1, v2, v3] T)
  have hz : (w.alloc (.cells #[v1, v2, v3] T)).heap.size = w.heap.size + 1 := by simp
  have c1 : (w.alloc (.cells #[v1, v2, v3] T)).cell? ⟨w.heap.size, 0, none⟩ = some v1 := by go_simp
  have c2 : (w.alloc (.cells #[v1, v2, v3] T)).cell? ⟨w.heap.size, 1, none⟩ = some v2 := by go_simp
  have c3 : (w.alloc (.cells #[v1, v2, v3] T)).cell? ⟨w.heap.size, 2, none⟩ = some v3 := by go_simp
  have k := fun {v : Value} {f : List Nz} (h : CopyOf w v f) => show NodesZ (w.alloc (.cells #[v1, v2, v3] T)) 0 (w.alloc (.cells #[v1, v2, v3] T)).heap.size v f from by
    obtain ⟨lo, hi, hh, hn⟩ := h.below hb
    exact hn.wide (Nat.zero_le _) hh
  refine ⟨_, 3, rfl, by simp, fun j f hj => ?_⟩
  have hl := get_lt hj
  simp at hl
  match j, hj with
  | 0, hj => simp at hj; subst hj; exact ⟨_, 0, v1, rfl, Nat.zero_le _, by omega, c1, k h1⟩
  | 1, hj => simp at hj; subst hj; exact ⟨_, 0, v2, rfl, Nat.zero_le _, by omega, c2, k h2⟩
  | 2, hj => simp at hj; subst hj; exact ⟨_, 0, v3, rfl, Nat.zero_le _, by omega, c3, k h3⟩
  | j + 3, _ => omega

theorem sum3I_calls {w : World} {v1 v2 v3 : Value} {f1 f2 f3 : List Nz} (h1 : CopyOf w v1 f1) (h2 : CopyOf w v2 f2) (h3 : CopyOf w v3 f3) (T : TypeId) (g : List Nz) (ok : Bool) (hok : Hid (soOk [f1, f2, f3] = ok)) (hg : Hid (soV [f1, f2, f3] = g)) :
    Calls Try.prog 10 #[.slice (some ⟨w.heap.size, 0, none⟩) 3 3] (w.alloc (.cells #[v1, v2, v3] T)) fun e w' => ∃ a c, e = .returned (.tuple #[.agg #[.slice a g.length c], .bool ok]) ∧ NodesZ w' w.heap.size w'.heap.size (.slice a g.length c) g ∧ Below w.heap.size w w' := by
  refine (sumOfI_calls _ _ g ok hok hg _ _ _ (Nat.le_refl _) (formsZ_three h1 h2 h3 T)).mono ?_
  rintro e w' ⟨a, c, vs, he, ho, hb⟩
  exact ⟨a, c, he, ho.nodesZ.wide (by simp) (Nat.le_refl _), below_via (below_new _ _) hb⟩

theorem sum3S_calls {w : World} {v1 v2 v3 : Value} {f1 f2 f3 : List Nz} (h1 : CopyOf w v1 f1) (h2 : CopyOf w v2 f2) (h3 : CopyOf w v3 f3) (T : TypeId) (g : List Nz) (ok : Bool) (hok : Hid (soOk [f1, f2, f3] = ok)) (hg : Hid (soV [f1, f2, f3] = g)) :
    Calls Try.prog 11 #[.slice (some ⟨w.heap.size, 0, none⟩) 3 3] (w.alloc (.cells #[v1, v2, v3] T)) fun e w' => ∃ a c, e = .returned (.tuple #[.agg #[.slice a g.length c], .bool ok]) ∧ NodesZ w' w.heap.size w'.heap.size (.slice a g.length c) g ∧ Below w.heap.size w w' := by
  refine (sumOfS_calls _ _ g ok hok hg _ _ _ (Nat.le_refl _) (formsZ_three h1 h2 h3 T)).mono ?_
  rintro e w' ⟨a, c, he, ho, hb⟩
  exact ⟨a, c, he, ho.wide (by simp) (Nat.le_refl _), below_via (below_new _ _) hb⟩

/-- three boxes that were made ahead of their games -/
theorem three_put {w : World} {v1 v2 v3 : Value} {f1 f2 f3 : List Nz} (h1 : CopyOf w v1 f1) (h2 : CopyOf w v2 f2) (h3 : CopyOf w v3 f3) (T : TypeId) (u : Value) (p q r : Nat) (hp : w.heap.size ≤ p ∧ p < w.heap.size + 3) (hq : w.heap.size ≤ q ∧ q < w.heap.size + 3) (hr : w.heap.size ≤ r ∧ r < w.heap.size + 3) (n1 : p ≠ q) (n2 : p ≠ r) (n3 : q ≠ r) (W : World) (hW : W = ((w.alloc (.cells #[u] T)).alloc (.cells #[u] T)).alloc (.cells #[u] T)) :
    BoxF (((W.setCell ⟨p, 0, none⟩ v1).setCell ⟨q, 0, none⟩ v2).setCell ⟨r, 0, none⟩ v3) p v1 f1 ∧ BoxF (((W.setCell ⟨p, 0, none⟩ v1).setCell ⟨q, 0, none⟩ v2).setCell ⟨r, 0, none⟩ v3) q v2 f2 ∧ BoxF (((W.setCell ⟨p, 0, none⟩ v1).setCell ⟨q, 0, none⟩ v2).setCell ⟨r, 0, none⟩ v3) r v3 f3 ∧ Below w.heap.size w (((W.setCell ⟨p, 0, none⟩ v1).setCell ⟨q, 0, none⟩ v2).setCell ⟨r, 0, none⟩ v3) := by
  have hbW : Below w.heap.size w W := by rw [hW]; exact below_via (below_via (below_new _ _) (below_new _ _)) (below_new _ _)
  have hb : Below w.heap.size w (((W.setCell ⟨p, 0, none⟩ v1).setCell ⟨q, 0, none⟩ v2).setCell ⟨r, 0, none⟩ v3) := ((hbW.setCell hp.1 _).setCell hq.1 _).setCell hr.1 _
  have hc : ∀ s, w.heap.size ≤ s → s < w.heap.size + 3 → W.cell? ⟨s, 0, none⟩ = some u := fun s g1 g2 => by
    rw [hW]
    have e : s = w.heap.size ∨ s = w.heap.size + 1 ∨ s = w.heap.size + 1 + 1 := by omega
    rcases e with rfl | rfl | rfl <;> go_simp
  refine ⟨⟨?_, h1.below hb⟩, ⟨?_, h2.below hb⟩, ⟨?_, h3.below hb⟩, hb⟩
  · rw [World.cell?_setCell_other _ _ _ _ (by first | (simp; done) | (simp; omega)), World.cell?_setCell_other _ _ _ _ (by first | (simp; done) | (simp; omega))]
    exact World.cell?_setCell_same _ _ _ (hc p hp.1 hp.2)
  · rw [World.cell?_setCell_other _ _ _ _ (by first | (simp; done) | (simp; omega))]
    exact World.cell?_setCell_same _ _ _ ((World.cell?_setCell_other _ _ _ _ (by first | (simp; done) | (simp; omega))).trans (hc q hq.1 hq.2))
  · exact World.cell?_setCell_same _ _ _ ((World.cell?_setCell_other _ _ _ _ (by first | (simp; done) | (simp; omega))).trans ((World.cell?_setCell_other _ _ _ _ (by first | (simp; done) | (simp; omega))).trans (hc r hr.1 hr.2)))

end Go.Proofs.Ytabfdaofikccmaa
