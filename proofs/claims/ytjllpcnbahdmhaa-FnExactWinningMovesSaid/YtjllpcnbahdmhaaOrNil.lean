/- The game 0, and the program's nothing. -/
import Derived.Test.YtjllpcnbahdmhaaOrI
import Derived.Test.YtjllpcnbahdmhaaOrDf
import Derived.Test.YtjllpcnbahdmhaaFmLaw
namespace Go.Proofs.Ytjllpcnbahdmhaa
open Go.RowKit
set_option linter.unusedVariables false
set_option linter.unusedSimpArgs false

theorem infoNodeI : (Try.prog.info? 67).map (fun i => (i.zero, i.size, i.bytes)) = some (some (.agg #[.slice none 0 0, .slice none 0 0]), 2, 48) := by kernel_rfl

theorem nothing_made (w w1 : World) (hown : w1.ownsRow w.heap.size 67 2 (.slice (some ⟨(w.alloc (.cells #[.slice none 0 0] 28)).heap.size, 0, none⟩) 1 1) 1 (madeCells (Value.agg #[.slice none 0 0, .slice none 0 0]).cells (1 * 2)).toList)
    (hg : (w.alloc (.cells #[.slice none 0 0] 28)).grownBy w1 none) :
    w1.cell? ⟨w.heap.size, 0, none⟩ = some (.slice none 0 0) ∧ w1.frozen? ⟨w.heap.size, 0, none⟩ = false ∧
    Hid ((w1.setCell ⟨w.heap.size, 0, none⟩ (.slice (some ⟨w.heap.size + 1, 0, none⟩) 1 1)).cell? ⟨w.heap.size, 0, none⟩ = some (.slice (some ⟨w.heap.size + 1, 0, none⟩) 1 1) ∧ CopyOf (w1.setCell ⟨w.heap.size, 0, none⟩ (.slice (some ⟨w.heap.size + 1, 0, none⟩) 1 1)) (.slice (some ⟨w.heap.size + 1, 0, none⟩) 1 1) [([], [])]) ∧
    Hid (Below w.heap.size w (w1.setCell ⟨w.heap.size, 0, none⟩ (.slice (some ⟨w.heap.size + 1, 0, none⟩) 1 1))) := by
  have hs : (w.alloc (.cells #[.slice none 0 0] 28)).heap.size = w.heap.size + 1 := by simp
  rw [hs] at hown
  have hblk := hg.block w.heap.size (by rw [hs]; omega) (by simp)
  have h0 : w1.cell? ⟨w.heap.size, 0, none⟩ = some (.slice none 0 0) := (World.cell?_of_block (a := ⟨w.heap.size, 0, none⟩) hblk).trans (by go_simp)
  have hf : w1.frozen? ⟨w.heap.size, 0, none⟩ = false := (World.frozen?_of_block (a := ⟨w.heap.size, 0, none⟩) hblk).trans (by go_simp)
  have c0 : w1.cell? ⟨w.heap.size + 1, 0, none⟩ = some (.slice none 0 0) := (World.ownsRow.cellAt hown 0 (by omega)).trans (by simp [madeCells, Value.cells])
  have c1 : w1.cell? ⟨w.heap.size + 1, 1, none⟩ = some (.slice none 0 0) := (World.ownsRow.cellAt hown 1 (by omega)).trans (by simp [madeCells, Value.cells])
  have hb : Below w.heap.size w w1 := ((Below.refl _ _).alloc (Nat.le_refl _) _).grown hg (by simp) (fun k hk => by cases hk)
  have ho : ∀ o, (w1.setCell ⟨w.heap.size, 0, none⟩ (.slice (some ⟨w.heap.size + 1, 0, none⟩) 1 1)).cell? ⟨w.heap.size + 1, o, none⟩ = w1.cell? ⟨w.heap.size + 1, o, none⟩ := fun o => World.cell?_setCell_other _ _ _ _ (fun e => by injection e with e _ _; omega)
  have hlt := block_of_cell c0
  refine ⟨h0, hf, Lib.hid ⟨World.cell?_setCell_same _ _ _ h0, 0, _, Nat.le_refl _, some ⟨w.heap.size + 1, 0, none⟩, 1, rfl, ⟨by simp, by omega⟩, fun j nd hnd => ?_⟩, Lib.hid ⟨hb.os, hb.tape, hb.output, by simpa using hb.size, fun k hk => ?_⟩⟩
  · have hj : j = 0 := by have := get_lt hnd; simp at this; omega
    subst hj
    simp at hnd
    subst hnd
    have hnil : ∀ W lo hi, IntsZ W lo hi (.slice none 0 0) [] := fun W lo hi => ⟨none, 0, rfl, ⟨by simp, by omega⟩, fun j x hx => by simp at hx⟩
    exact ⟨w.heap.size + 1, 0, _, _, rfl, Nat.zero_le _, by simpa using hlt, (ho _).trans c0, (ho _).trans c1, hnil _ _ _, hnil _ _ _⟩
  · exact (Below.heap_setCell w1 ⟨w.heap.size, 0, none⟩ _ k (by simp; omega)).trans (hb.block k hk)

set_option maxRecDepth 100000 in
theorem nothing_calls (w : World) : Calls Try.prog 60 #[] w fun e w' => ∃ v, e = .returned (.agg #[v]) ∧ CopyOf w' v [([], [])] ∧ Below w.heap.size w w' := by
  obtain ⟨i0, hi0, hz0, hz1, hz2⟩ := info_parts infoNodeI
  go_enter Try.func60, Try.ntmps60
  go_wp2_with (at_make; refine wpList_make_full _ rfl _ _ 26 rfl w.heap.size 67 i0 (.agg #[.slice none 0 0, .slice none 0 0]) 2 Try.underlying26 hi0 hz0 hz1 _ _ _ _ 1 rfl rfl (by first | rfl | (simp; done)) (by first | rfl | (simp; done)) (by rw [hz2]; omega) (by unfold maxLen; omega) (by simp) ?_; intro w1 hown hg; obtain ⟨h0, hf, HN, HB⟩ := nothing_made w w1 hown hg; clear hown hg)
  exact bodyPost_ret (v := .agg #[.slice (some ⟨w.heap.size + 1, 0, none⟩) 1 1]) (by simp [results, Try.results60, go_sem, HN.out.1]) rfl ⟨_, rfl, HN.out.2, HB.out⟩

theorem good_zero : goodB [([], [])] = true := by decide

theorem diff_zero (f : List Nz) (l : Bool) : diffF f [([], [])] l = soloF (f.map downN) (f.length - 1) l := rfl

theorem held_below {w w1 : World} {P : Nat} {A B : List Nd} {va vb : Value} (h : Held w w1 P A B va vb) : Below w.heap.size w w1 := by obtain ⟨_, _, _, _, _, _, _, hb⟩ := h; exact hb

end Go.Proofs.Ytjllpcnbahdmhaa
