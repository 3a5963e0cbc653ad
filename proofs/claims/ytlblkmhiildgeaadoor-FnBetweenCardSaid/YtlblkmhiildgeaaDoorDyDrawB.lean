/- The draw of two numbers for SimplestBetween. -/
import Derived.Test.YtlblkmhiildgeaaDoorDyDrawn
import Derived.Test.YtlblkmhiildgeaaDoorDyAddG
import Derived.Deep.RegionWith
namespace Go.Proofs.YtlblkmhiildgeaaDoor
open Go.RowKit
set_option linter.unusedVariables false

theorem cell_lt {w : World} {g o : Nat} {v : Value} (h : w.cell? ⟨g, o, none⟩ = some v) : g < w.heap.size := by
  rcases Nat.lt_or_ge g w.heap.size with h1 | h1
  · exact h1
  · have h2 : w.heap[g]? = none := Array.getElem?_eq_none h1
    simp [World.cell?, h2] at h

def btwL : List Int := [0, 1, 4, 15, 16]
theorem btwL_of {x : Int} (h : x ∈ btwL) : ∃ k : Nat, x = k ∧ k ≤ 16 := by
  simp [btwL] at h
  exact ⟨x.toNat, by omega, by omega⟩

set_option maxHeartbeats 4000000 in
theorem drawBtw_calls (ao : Option Addr) (n c : Nat) (w : World) (hc : CodeIn w (.slice ao n c) n) (hn : n ≤ 1000000) :
    Calls Tryd.prog 19 #[.slice ao n c] w fun e w' => (∃ ta pa tb pb : Int, e = .returned (.tuple #[.agg #[.int .i64 ta, .int .i64 pa], .agg #[.int .i64 tb, .int .i64 pb]])) ∧ Below w.heap.size w w' := by
  have hP0 := pair_start w (.int .i64 0) (.int .i64 0) (.int .i64 0) (.int .i64 0) 25
  have hz : ((w.alloc (.cells #[.int .i64 0, .int .i64 0] 25)).alloc (.cells #[.int .i64 0, .int .i64 0] 25)).heap.size = w.heap.size + 2 := by simp
  have hcn := cur_new ((w.alloc (.cells #[.int .i64 0, .int .i64 0] 25)).alloc (.cells #[.int .i64 0, .int .i64 0] 25)) (.slice ao n c)
  rw [hz] at hcn
  have HC := Lib.hid hcn
  have hcW := hc.below (w' := ((w.alloc (.cells #[.int .i64 0, .int .i64 0] 25)).alloc (.cells #[.int .i64 0, .int .i64 0] 25))) (((Below.refl _ _).alloc (Nat.le_refl _) _).alloc (by simp) _)
  have hf0 : ∀ o, ((w.alloc (.cells #[.int .i64 0, .int .i64 0] 25)).alloc (.cells #[.int .i64 0, .int .i64 0] 25)).frozen? ⟨w.heap.size, o, none⟩ = false ∧ ((w.alloc (.cells #[.int .i64 0, .int .i64 0] 25)).alloc (.cells #[.int .i64 0, .int .i64 0] 25)).frozen? ⟨w.heap.size + 1, o, none⟩ = false := by
    intro o
    constructor
    · have e : ((w.alloc (.cells #[.int .i64 0, .int .i64 0] 25)).alloc (.cells #[.int .i64 0, .int .i64 0] 25)).heap = (w.heap.push (.cells #[.int .i64 0, .int .i64 0] 25)).push (.cells #[.int .i64 0, .int .i64 0] 25) := rfl
      exact free_of_block (cs := #[.int .i64 0, .int .i64 0]) (t := 25) (by rw [e]; simp [Array.getElem?_push]) o
    · have e := heap_alloc_new (w.alloc (.cells #[.int .i64 0, .int .i64 0] 25)) (.cells #[.int .i64 0, .int .i64 0] 25)
      rw [show (w.alloc (.cells #[.int .i64 0, .int .i64 0] 25)).heap.size = w.heap.size + 1 by simp] at e
      exact free_of_block e o
  generalize hW1 : (w.alloc (.cells #[.int .i64 0, .int .i64 0] 25)).alloc (.cells #[.int .i64 0, .int .i64 0] 25) = W1 at hP0 hz HC hcW hf0
  have HA : ∀ W N, N ≤ 100 → Cur W1 W (w.heap.size + 2) (.slice ao n c) N → Hid (Calls Tryd.prog 38 #[.pointer (some ⟨w.heap.size + 2, 0, none⟩)] W fun e w' => (∃ t p : Int, (-2000000 ≤ t ∧ t ≤ 2000000 ∧ -1 ≤ p ∧ p ≤ 20) ∧ e = .returned (.agg #[.int .i64 t, .int .i64 p])) ∧ Cur W1 w' (w.heap.size + 2) (.slice ao n c) (N + 16) ∧ W.grownBy w' (some (w.heap.size + 2))) :=
    fun W N hN hW => Lib.hid (anyDyadic_calls _ W (w.heap.size + 2) n N (.slice ao n c) hcW hn hW (by omega))
  have HO : ∀ W, Cur W1 W (w.heap.size + 2) (.slice ao n c) 16 → Hid (Calls Tryd.prog 48 #[.pointer (some ⟨w.heap.size + 2, 0, none⟩), .int .i64 3] W fun e w' => (∃ b : Bool, e = .returned (.bool b)) ∧ Cur W1 w' (w.heap.size + 2) (.slice ao n c) (16 + 2) ∧ W.grownBy w' (some (w.heap.size + 2))) :=
    fun W hW => Lib.hid (one_calls _ W (w.heap.size + 2) n 16 3 (.slice ao n c) hcW hn hW (by omega) (by omega) (by omega))
  have HAM : ∀ (W : World) (gs : Nat), gs ≠ w.heap.size + 2 → IntsAt W gs btwL → Cur W1 W (w.heap.size + 2) (.slice ao n c) 18 → Hid (Calls Tryd.prog 50 #[.pointer (some ⟨w.heap.size + 2, 0, none⟩), .slice (some ⟨gs, 0, none⟩) 5 5] W fun e w' => (∃ x ∈ btwL, e = .returned (.int .i64 x)) ∧ Cur W1 w' (w.heap.size + 2) (.slice ao n c) (18 + 2) ∧ W.grownBy w' (some (w.heap.size + 2))) :=
    fun W gs hg hi hW => Lib.hid (among_calls W1 W (w.heap.size + 2) n 18 gs 5 (.slice ao n c) btwL hcW hn hW (by omega) (by decide) (by decide) hi hg)
  have HM : ∀ (W : World) (k : Nat), k ≤ 16 → Hid (Calls Tryd.prog 49 #[.int .i64 1, .int .i64 k] W fun e w' => e = .returned (.agg #[.int .i64 1, .int .i64 k]) ∧ Below W.heap.size W w') := fun W k hk => Lib.hid (by
    have h := l2Make_calls 1 k W (by omega) (by omega) (by omega)
    rw [mkD_canon (Or.inr (by decide))] at h
    exact h)
  clear hc hn hcn hcW
  go_enter Tryd.func19, Tryd.ntmps19
  go_wp2_with fail
  refine (HA _ 0 (by omega) HC.out).out.mono ?_
  rintro e w1 ⟨⟨t, p, hT, rfl⟩, hc1, hg1⟩
  have hlt := hc1.lt
  have HC1 : Hid (Cur W1 (w1.alloc (.cells #[.int .i64 t, .int .i64 p] 25)) (w.heap.size + 2) (.slice ao n c) 16) := Lib.hid (hc1.grown (World.grownBy_alloc w1 _ none) (fun k hk => by cases hk) (by simp))
  have e := heap_alloc_new w1 (.cells #[.int .i64 t, .int .i64 p] 25)
  have g0 : (w1.alloc (.cells #[.int .i64 t, .int .i64 p] 25)).cell? ⟨w1.heap.size, 0, none⟩ = some (.int .i64 t) := cell_of_block e 0
  have g1 : (w1.alloc (.cells #[.int .i64 t, .int .i64 p] 25)).cell? ⟨w1.heap.size, 1, none⟩ = some (.int .i64 p) := cell_of_block e 1
  have HT := Lib.hid hT
  clear hc1 hg1 HC e hT hW1
  go_upto_region 3 with fail
  generalize w1.alloc (.cells #[.int .i64 t, .int .i64 p] 25) = w2 at HC1 g0 g1 ⊢
  generalize w1.heap.size = g at hlt g0 g1 ⊢
  have hne2 : some g ≠ some (w.heap.size + 2) := by intro e; injection e with e; omega
  go_wp2_with fail
  refine (HO w2 HC1.out).out.mono ?_
  rintro e w3 ⟨⟨b, rfl⟩, hc3, hg3⟩
  have q0 := hg3.cell (a := ⟨g, 0, none⟩) g0 hne2
  have q1 := hg3.cell (a := ⟨g, 1, none⟩) g1 hne2
  have HC3 := Lib.hid (cur_drew hc3)
  have hlt3 := hc3.lt
  clear hc3 hg3 HC1 g0 g1
  have HF : ∀ w4 : World, Below W1.heap.size W1 w4 → w3.drew.grownBy w4 (some (w.heap.size + 2)) → w4.cell? ⟨w.heap.size, 0, none⟩ = some (.int .i64 0) ∧ w4.cell? ⟨w.heap.size, 1, none⟩ = some (.int .i64 0) ∧ w4.cell? ⟨w.heap.size + 1, 0, none⟩ = some (.int .i64 0) ∧ w4.cell? ⟨w.heap.size + 1, 1, none⟩ = some (.int .i64 0) ∧ w4.frozen? ⟨w.heap.size, 0, none⟩ = false ∧ w4.frozen? ⟨w.heap.size, 1, none⟩ = false ∧ w4.frozen? ⟨w.heap.size + 1, 0, none⟩ = false ∧ w4.frozen? ⟨w.heap.size + 1, 1, none⟩ = false ∧ w4.cell? ⟨g, 0, none⟩ = some (.int .i64 t) ∧ w4.cell? ⟨g, 1, none⟩ = some (.int .i64 p) ∧ Hid (Below w.heap.size w w4) ∧ Hid (Below W1.heap.size W1 w4 ∧ w3.drew.grownBy w4 (some (w.heap.size + 2))) := by
    intro w4 hB hG
    obtain ⟨c0, c1, c2, c3, c4, HB3⟩ := pair_next hB hP0
    exact ⟨c0, c1, c2, c3, ((bcell hB).2 w.heap.size 0 (by omega)).trans (hf0 0).1, ((bcell hB).2 w.heap.size 1 (by omega)).trans (hf0 1).1, ((bcell hB).2 (w.heap.size + 1) 0 (by omega)).trans (hf0 0).2, ((bcell hB).2 (w.heap.size + 1) 1 (by omega)).trans (hf0 1).2, hG.cell (a := ⟨g, 0, none⟩) q0 hne2, hG.cell (a := ⟨g, 1, none⟩) q1 hne2, Lib.hid HB3, Lib.hid ⟨hB, hG⟩⟩
  have HS : ∀ w4 w5 : World, Hid (Below W1.heap.size W1 w4 ∧ w3.drew.grownBy w4 (some (w.heap.size + 2))) → Below w4.heap.size w4 w5 → Below W1.heap.size W1 w5 ∧ w3.drew.grownBy w5 (some (w.heap.size + 2)) := by
    intro w4 w5 h hb
    refine ⟨h.out.1.trans (hb.mono h.out.1.size), gtrans h.out.2 ?_⟩
    exact ⟨hb.os, hb.tape, hb.output, hb.size, fun i hi _ => hb.block i hi⟩
  cases b
  · go_upto_region 5 with fail
    go_region_with (go_at_call 38; (with_reducible refine (HA _ 18 ?_ ?_).out.mono ?_); (first | omega | exact HC3.out); (first | omega | exact HC3.out); rintro e w4 ⟨⟨t2, p2, _, rfl⟩, hc4, hg4⟩; obtain ⟨c0, c1, c2, c3, f0, f1, f2, f3, k0, k1, HB3, HR⟩ := HF w4 hc4.2.1 hg4; clear hc4 hg4)
    all_goals
      clear HA HF HS HC3 HO HAM HM hf0 hP0 hz q0 q1 k0 k1 hne2 hlt hlt3
      go_wp2_with fail
      refine bodyPost_ret (v := .tuple #[.agg #[.int .i64 t, .int .i64 p], .agg #[.int .i64 t2, .int .i64 p2]]) (by simp [*, results, Tryd.results19, go_sem]) rfl ⟨⟨t, p, t2, p2, rfl⟩, ?_⟩
      exact (((HB3.out.setCell (Nat.le_refl _) _).setCell (Nat.le_refl _) _).setCell (Nat.le_succ _) _).setCell (Nat.le_succ _) _
  · have eA := heap_alloc_new w3 (.cells (btwL.map (Value.int .i64)).toArray 3)
    have hI : IntsAt ((w3.alloc (.cells (btwL.map (Value.int .i64)).toArray 3)).drew) w3.heap.size btwL := by
      intro j x hx
      have h2 := cell_of_block eA j
      show (w3.alloc (.cells (btwL.map (Value.int .i64)).toArray 3)).cell? ⟨w3.heap.size, j, none⟩ = _
      rw [h2]
      simp [hx]
    have hCA : Cur W1 ((w3.alloc (.cells (btwL.map (Value.int .i64)).toArray 3)).drew) (w.heap.size + 2) (.slice ao n c) 18 := by
      obtain ⟨h1, h2, a, h3, s, hs⟩ := HC3.out
      have h4 : Cur W1 w3 (w.heap.size + 2) (.slice ao n c) 18 := ⟨h1, ⟨h2.os, h2.tape, h2.output, h2.size, h2.block⟩, a, h3, s, hs⟩
      exact cur_drew (h4.grown (World.grownBy_alloc w3 _ none) (fun k hk => by cases hk) (by simp))
    have hGA : w3.drew.grownBy ((w3.alloc (.cells (btwL.map (Value.int .i64)).toArray 3)).drew) (some (w.heap.size + 2)) := by
      have h := World.grownBy_alloc w3 (.cells (btwL.map (Value.int .i64)).toArray 3) (some (w.heap.size + 2))
      exact ⟨h.os, h.tape, h.output, h.size, h.block⟩
    have hAm := HAM _ w3.heap.size (by omega) hI hCA
    have hbl := fun (x : Int) (h : x ∈ btwL) => btwL_of h
    have HGA := Lib.hid hGA
    have HT2 : Hid (∀ (W : World) (k : Nat), k ≤ 16 → Calls Tryd.prog 43 #[.agg #[.int .i64 t, .int .i64 p], .agg #[.int .i64 1, .int .i64 k]] W fun e w' => (∃ t p : Int, e = .returned (.agg #[.int .i64 t, .int .i64 p])) ∧ Below W.heap.size W w') := Lib.hid (fun W k hk => l2Add_wide t 1 p k W HT.out.1 HT.out.2.1 HT.out.2.2.1 HT.out.2.2.2 (by omega) (by omega) (by omega))
    have hgl : g < w3.heap.size := cell_lt q0
    clear eA hI hCA hGA HAM HA HO
    go_upto_region 4 with fail
    go_region_with (first | (go_at_call 50; refine hAm.out.mono ?_; rintro e w4 ⟨⟨x, hx, rfl⟩, hc4, hg4⟩; obtain ⟨k, rfl, hk⟩ := hbl x hx; obtain ⟨c0, c1, c2, c3, f0, f1, f2, f3, k0, k1, HB4, HR4⟩ := HF w4 hc4.2.1 (gtrans HGA.out hg4); clear hc4 hg4 hx) | (go_at_call 49; (with_reducible refine (HM _ _ ?_).out.mono ?_); (assumption); rintro e w5 ⟨rfl, hb5⟩; obtain ⟨hx5, hy5⟩ := HS _ _ HR4 hb5; obtain ⟨c0, c1, c2, c3, f0, f1, f2, f3, k0, k1, HB5, HR5⟩ := HF w5 hx5 hy5; clear hb5 hx5 hy5) | (go_at_call 43; (with_reducible refine (HT2.out _ _ ?_).mono ?_); (assumption); rintro e w6 ⟨⟨t2, p2, rfl⟩, hb6⟩; obtain ⟨hx6, hy6⟩ := HS _ _ HR5 hb6; obtain ⟨c0, c1, c2, c3, f0, f1, f2, f3, k0, k1, HB3, HR6⟩ := HF w6 hx6 hy6; clear hb6 hx6 hy6))
    all_goals
      clear HF HS HC3 HM hf0 hP0 hz q0 q1 k0 k1 hne2 hlt hlt3 hAm HT2
      go_wp2_with fail
      refine bodyPost_ret (v := .tuple #[.agg #[.int .i64 t, .int .i64 p], .agg #[.int .i64 t2, .int .i64 p2]]) (by simp [*, results, Tryd.results19, go_sem]) rfl ⟨⟨t, p, t2, p2, rfl⟩, ?_⟩
      exact (((HB3.out.setCell (Nat.le_refl _) _).setCell (Nat.le_refl _) _).setCell (Nat.le_succ _) _).setCell (Nat.le_succ _) _

end Go.Proofs.YtlblkmhiildgeaaDoor
