/- The draws of chapter 2, as the laws call them. -/
import Derived.Test.YtlblkmhiildgeaaDoorDyAny
import Derived.Deep.RegionWith
namespace Go.Proofs.YtlblkmhiildgeaaDoor
open Go.RowKit
set_option linter.unusedVariables false

theorem cur_drew {W0 W : World} {q N : Nat} {v : Value} (h : Cur W0 W q v N) : Cur W0 W.drew q v N := by
  obtain ⟨h1, h2, a, h3, s, hs⟩ := h
  exact ⟨h1, h2.drew, a, h3, s, hs⟩

set_option maxHeartbeats 2000000 in
theorem drawGood_calls (ao : Option Addr) (n c : Nat) (w : World) (hc : CodeIn w (.slice ao n c) n) (hn : n ≤ 1000000) :
    Calls Tryd.prog 22 #[.slice ao n c] w fun e w' => (∃ t p : Int, (-2000000 ≤ t ∧ t ≤ 2000000 ∧ -1 ≤ p ∧ p ≤ 20) ∧ e = .returned (.agg #[.int .i64 t, .int .i64 p])) ∧ Below w.heap.size w w' := by
  have hP0 := one_start w (.int .i64 0) (.int .i64 0) 25
  have hz : (w.alloc (.cells #[.int .i64 0, .int .i64 0] 25)).heap.size = w.heap.size + 1 := by simp
  have hcn := cur_new (w.alloc (.cells #[.int .i64 0, .int .i64 0] 25)) (.slice ao n c)
  rw [hz] at hcn
  have HC := Lib.hid hcn
  have HA : ∀ W, Cur (w.alloc (.cells #[.int .i64 0, .int .i64 0] 25)) W (w.heap.size + 1) (.slice ao n c) 0 → Hid (Calls Tryd.prog 38 #[.pointer (some ⟨w.heap.size + 1, 0, none⟩)] W fun e w' => (∃ t p : Int, (-2000000 ≤ t ∧ t ≤ 2000000 ∧ -1 ≤ p ∧ p ≤ 20) ∧ e = .returned (.agg #[.int .i64 t, .int .i64 p])) ∧ Cur (w.alloc (.cells #[.int .i64 0, .int .i64 0] 25)) w' (w.heap.size + 1) (.slice ao n c) (0 + 16) ∧ W.grownBy w' (some (w.heap.size + 1))) :=
    fun W hW => Lib.hid (anyDyadic_calls _ W (w.heap.size + 1) n 0 (.slice ao n c) (hc.below ((Below.refl _ _).alloc (Nat.le_refl _) _)) hn hW (by omega))
  clear hc hn hcn
  go_enter Tryd.func22, Tryd.ntmps22
  go_wp2_with fail
  refine (HA _ HC.out).out.mono ?_
  rintro e w1 ⟨⟨t, p, hT, rfl⟩, hc1, hg1⟩
  have hb := hc1.2.1
  have HT := Lib.hid hT
  clear hc1 hg1 hT HC HA
  have hP1 := one_next hb hP0
  have hQ := hP1
  obtain ⟨c10, c11, c12, HB1⟩ := hQ
  have hf1 := (bcell hb).2
  clear hb HB1
  go_wp2_with fail
  refine bodyPost_ret (v := .agg #[.int .i64 t, .int .i64 p]) (by simp [*, results, Tryd.results22, go_sem]) rfl ⟨⟨t, p, HT.out, rfl⟩, ?_⟩
  exact (hP1.2.2.2.setCell (Nat.le_refl _) _).setCell (Nat.le_refl _) _

set_option maxHeartbeats 2000000 in
theorem drawDText_calls (ao : Option Addr) (n c : Nat) (w : World) (hc : CodeIn w (.slice ao n c) n) (hn : n ≤ 1000000) :
    Calls Tryd.prog 25 #[.slice ao n c] w fun e w' => (∃ t p : Int, (-2000000 ≤ t ∧ t ≤ 2000000 ∧ -1 ≤ p ∧ p ≤ 20) ∧ e = .returned (.agg #[.int .i64 t, .int .i64 p])) ∧ Below w.heap.size w w' := by
  have hP0 := one_start w (.int .i64 0) (.int .i64 0) 25
  have HA := Lib.hid (drawGood_calls ao n c (w.alloc (.cells #[.int .i64 0, .int .i64 0] 25)) (hc.below ((Below.refl _ _).alloc (Nat.le_refl _) _)) hn)
  clear hc hn
  go_enter Tryd.func25, Tryd.ntmps25
  go_wp2_with fail
  refine HA.out.mono ?_
  rintro e w1 ⟨⟨t, p, hT, rfl⟩, hb⟩
  have HT := Lib.hid hT
  clear hT HA
  have hP1 := one_next hb hP0
  have hQ := hP1
  obtain ⟨c10, c11, c12, HB1⟩ := hQ
  have hf1 := (bcell hb).2
  clear hb HB1
  go_wp2_with fail
  refine bodyPost_ret (v := .agg #[.int .i64 t, .int .i64 p]) (by simp [*, results, Tryd.results25, go_sem]) rfl ⟨⟨t, p, HT.out, rfl⟩, ?_⟩
  exact (hP1.2.2.2.setCell (Nat.le_refl _) _).setCell (Nat.le_refl _) _

set_option maxHeartbeats 4000000 in
theorem drawAdd_calls (ao : Option Addr) (n c : Nat) (w : World) (hc : CodeIn w (.slice ao n c) n) (hn : n ≤ 1000000) :
    Calls Tryd.prog 12 #[.slice ao n c] w fun e w' => (∃ ta pa tb pb : Int, e = .returned (.tuple #[.agg #[.int .i64 ta, .int .i64 pa], .agg #[.int .i64 tb, .int .i64 pb]])) ∧ Below w.heap.size w w' := by
  have hP0 := pair_start w (.int .i64 0) (.int .i64 0) (.int .i64 0) (.int .i64 0) 25
  have hz : ((w.alloc (.cells #[.int .i64 0, .int .i64 0] 25)).alloc (.cells #[.int .i64 0, .int .i64 0] 25)).heap.size = w.heap.size + 2 := by simp
  have hcn := cur_new ((w.alloc (.cells #[.int .i64 0, .int .i64 0] 25)).alloc (.cells #[.int .i64 0, .int .i64 0] 25)) (.slice ao n c)
  rw [hz] at hcn
  have HC := Lib.hid hcn
  have hcW := hc.below (w' := ((w.alloc (.cells #[.int .i64 0, .int .i64 0] 25)).alloc (.cells #[.int .i64 0, .int .i64 0] 25))) (((Below.refl _ _).alloc (Nat.le_refl _) _).alloc (by simp) _)
  have hf0 : ∀ o, ((w.alloc (.cells #[.int .i64 0, .int .i64 0] 25)).alloc (.cells #[.int .i64 0, .int .i64 0] 25)).frozen? ⟨w.heap.size, o, none⟩ = false ∧ ((w.alloc (.cells #[.int .i64 0, .int .i64 0] 25)).alloc (.cells #[.int .i64 0, .int .i64 0] 25)).frozen? ⟨w.heap.size + 1, o, none⟩ = false := by
    intro o
    constructor
    · have e : ((w.alloc (.cells #[.int .i64 0, .int .i64 0] 25)).alloc (.cells #[.int .i64 0, .int .i64 0] 25)).heap = (w.heap.push (.cells #[.int .i64 0, .int .i64 0] 25)).push (.cells #[.int .i64 0, .int .i64 0] 25) := rfl
      exact free_of_block (cs := #[.int .i64 0, .int .i64 0]) (t := 25) (by rw [e]; simp [Array.getElem?_push]) o
    · have e := heap_alloc_new (w.alloc (.cells #[.int .i64 0, .int .i64 0] 25)) (.cells #[.int .i64 0, .int .i64 0] 25)
      rw [show (w.alloc (.cells #[.int .i64 0, .int .i64 0] 25)).heap.size = w.heap.size + 1 by simp] at e
      exact free_of_block e o
  generalize hW1 : (w.alloc (.cells #[.int .i64 0, .int .i64 0] 25)).alloc (.cells #[.int .i64 0, .int .i64 0] 25) = W1 at hP0 hz HC hcW hf0
  have HA : ∀ W N, N ≤ 100 → Cur W1 W (w.heap.size + 2) (.slice ao n c) N → Hid (Calls Tryd.prog 38 #[.pointer (some ⟨w.heap.size + 2, 0, none⟩)] W fun e w' => (∃ t p : Int, (-2000000 ≤ t ∧ t ≤ 2000000 ∧ -1 ≤ p ∧ p ≤ 20) ∧ e = .returned (.agg #[.int .i64 t, .int .i64 p])) ∧ Cur W1 w' (w.heap.size + 2) (.slice ao n c) (N + 16) ∧ W.grownBy w' (some (w.heap.size + 2))) :=
    fun W N hN hW => Lib.hid (anyDyadic_calls _ W (w.heap.size + 2) n N (.slice ao n c) hcW hn hW (by omega))
  clear hc hn hcn hcW
  go_enter Tryd.func12, Tryd.ntmps12
  go_wp2_with fail
  refine (HA _ 0 (by omega) HC.out).out.mono ?_
  rintro e w1 ⟨⟨t, p, _, rfl⟩, hc1, hg1⟩
  have hlt := hc1.lt
  have hP1 := pair_next hc1.2.1 hP0
  have HC1 : Hid (Cur W1 (w1.alloc (.cells #[.int .i64 t, .int .i64 p] 25)) (w.heap.size + 2) (.slice ao n c) 16) := Lib.hid (hc1.grown (World.grownBy_alloc w1 _ none) (fun k hk => by cases hk) (by simp))
  have e := heap_alloc_new w1 (.cells #[.int .i64 t, .int .i64 p] 25)
  have g0 : (w1.alloc (.cells #[.int .i64 t, .int .i64 p] 25)).cell? ⟨w1.heap.size, 0, none⟩ = some (.int .i64 t) := cell_of_block e 0
  have g1 : (w1.alloc (.cells #[.int .i64 t, .int .i64 p] 25)).cell? ⟨w1.heap.size, 1, none⟩ = some (.int .i64 p) := cell_of_block e 1
  clear hc1 hg1 HC e hP1
  go_upto_region 3 with fail
  generalize w1.alloc (.cells #[.int .i64 t, .int .i64 p] 25) = w2 at HC1 g0 g1 ⊢
  generalize w1.heap.size = g at hlt g0 g1 ⊢
  have HC2 := Lib.hid (cur_drew HC1.out)
  have hne : w.heap.size + 2 ≠ g := by omega
  clear HC1 hW1
  have hne2 : some g ≠ some (w.heap.size + 2) := by intro e; injection e with e; omega
  have HF : ∀ w3 : World, Below W1.heap.size W1 w3 → w2.drew.grownBy w3 (some (w.heap.size + 2)) → w3.cell? ⟨w.heap.size, 0, none⟩ = some (.int .i64 0) ∧ w3.cell? ⟨w.heap.size, 1, none⟩ = some (.int .i64 0) ∧ w3.cell? ⟨w.heap.size + 1, 0, none⟩ = some (.int .i64 0) ∧ w3.cell? ⟨w.heap.size + 1, 1, none⟩ = some (.int .i64 0) ∧ w3.frozen? ⟨w.heap.size, 0, none⟩ = false ∧ w3.frozen? ⟨w.heap.size, 1, none⟩ = false ∧ w3.frozen? ⟨w.heap.size + 1, 0, none⟩ = false ∧ w3.frozen? ⟨w.heap.size + 1, 1, none⟩ = false ∧ w3.cell? ⟨g, 0, none⟩ = some (.int .i64 t) ∧ w3.cell? ⟨g, 1, none⟩ = some (.int .i64 p) ∧ Hid (Below w.heap.size w w3) := by
    intro w3 hB hG
    obtain ⟨c0, c1, c2, c3, c4, HB3⟩ := pair_next hB hP0
    exact ⟨c0, c1, c2, c3, ((bcell hB).2 w.heap.size 0 (by omega)).trans (hf0 0).1, ((bcell hB).2 w.heap.size 1 (by omega)).trans (hf0 1).1, ((bcell hB).2 (w.heap.size + 1) 0 (by omega)).trans (hf0 0).2, ((bcell hB).2 (w.heap.size + 1) 1 (by omega)).trans (hf0 1).2, hG.cell (a := ⟨g, 0, none⟩) g0 hne2, hG.cell (a := ⟨g, 1, none⟩) g1 hne2, Lib.hid HB3⟩
  go_region_with (go_at_call 38; go_loud ((with_reducible refine (HA _ 16 ?_ ?_).out.mono ?_); (first | omega | exact HC2.out); (first | omega | exact HC2.out); rintro e w3 ⟨⟨t2, p2, _, rfl⟩, hc3, hg3⟩; obtain ⟨c0, c1, c2, c3, f0, f1, f2, f3, k0, k1, HB3⟩ := HF w3 hc3.2.1 hg3; clear hc3 hg3))
  all_goals
    clear HA HF HC2 hf0 hP0 hz g0 g1 k0 k1 hne hne2 hlt
    go_wp2_with fail
    refine bodyPost_ret (v := .tuple #[.agg #[.int .i64 t, .int .i64 p], .agg #[.int .i64 t2, .int .i64 p2]]) (by simp [*, results, Tryd.results12, go_sem]) rfl ⟨⟨t, p, t2, p2, rfl⟩, ?_⟩
    exact (((HB3.out.setCell (Nat.le_refl _) _).setCell (Nat.le_refl _) _).setCell (Nat.le_succ _) _).setCell (Nat.le_succ _) _

end Go.Proofs.YtlblkmhiildgeaaDoor
