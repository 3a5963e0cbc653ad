/- The draws of chapter 2 that give numbers. -/
import Derived.Test.YtlblkmhiildgeaaDoorDyPick
import Derived.Test.YtlblkmhiildgeaaDoorDyMake
namespace Go.Proofs.YtlblkmhiildgeaaDoor
open Go.RowKit
set_option linter.unusedVariables false

theorem mkD_bd (p : Nat) (t : Int) (M : Int) (h1 : -M ≤ t) (h2 : t ≤ M) : -M ≤ (mkD t p).1 ∧ (mkD t p).1 ≤ M ∧ (mkD t p).2 ≤ p := by
  obtain ⟨h3, h4, _⟩ := mkD_spec p t
  have h5 := two_pos (p - (mkD t p).2)
  generalize (mkD t p).1 = x at h4 ⊢
  generalize (2 : Int) ^ (p - (mkD t p).2) = k at h4 h5
  have h6 : x * k = x + x * (k - 1) := by rw [Int.mul_sub, Int.mul_one]; omega
  refine ⟨?_, ?_, h3⟩
  · rcases Int.lt_or_le x 0 with h | h
    · have : x * (k - 1) ≤ 0 := Int.mul_nonpos_of_nonpos_of_nonneg (by omega) (by omega)
      omega
    · omega
  · rcases Int.lt_or_le x 0 with h | h
    · omega
    · have : 0 ≤ x * (k - 1) := Int.mul_nonneg h (by omega)
      omega

/-- the call's own place g for a number of two parts, beside the cursor q; the rest is as it was -/
def Spot (w : World) (q g : Nat) (W : World) : Prop := w.grownBy W (some q) ∧ w.heap.size ≤ g ∧ g < W.heap.size ∧ W.cell? ⟨g, 0, none⟩ = some (curV W g 0) ∧ W.cell? ⟨g, 1, none⟩ = some (curV W g 1) ∧ W.frozen? ⟨g, 0, none⟩ = false ∧ W.frozen? ⟨g, 1, none⟩ = false

theorem spot_start (w : World) (q : Nat) (v0 v1 : Value) (t : TypeId) : Spot w q w.heap.size (w.alloc (.cells #[v0, v1] t)) := by
  have e := heap_alloc_new w (.cells #[v0, v1] t)
  refine ⟨World.grownBy_alloc w _ _, Nat.le_refl _, by simp, ?_, ?_, ?_, ?_⟩
  · exact curV_of (v := v0) (by simp only [World.cell?, e]; rfl)
  · exact curV_of (v := v1) (by simp only [World.cell?, e]; rfl)
  · exact free_of_block e 0
  · exact free_of_block e 1

theorem spot_next {w W w1 : World} {q g : Nat} {row : Option Nat} (hq : q < w.heap.size) (hb : W.grownBy w1 row) (hr : row = some q ∨ row = none) (h : Spot w q g W) : Spot w q g w1 := by
  obtain ⟨h0, h1, h2, h3, h4, h5, h6⟩ := h
  have hne : some g ≠ row := by
    rcases hr with rfl | rfl
    · intro e; cases e; omega
    · intro e; cases e
  have e := hb.block g h2 hne
  have hb' : W.grownBy w1 (some q) := by
    rcases hr with rfl | rfl
    · exact hb
    · exact ⟨hb.os, hb.tape, hb.output, hb.size, fun i hi _ => hb.block i hi (by intro e; cases e)⟩
  refine ⟨gtrans h0 hb', h1, Nat.lt_of_lt_of_le h2 hb.size, ?_, ?_, ?_, ?_⟩
  · exact curV_of (v := curV W g 0) (by rw [← h3]; simp only [World.cell?, e])
  · exact curV_of (v := curV W g 1) (by rw [← h4]; simp only [World.cell?, e])
  · rw [← h5]; simp only [World.frozen?, e]
  · rw [← h6]; simp only [World.frozen?, e]

theorem below_grown {w w1 : World} (h : Below w.heap.size w w1) : w.grownBy w1 none := ⟨h.os, h.tape, h.output, h.size, fun i hi _ => h.block i hi⟩

theorem spot_store {w W : World} {q g : Nat} (k : Nat) (x : Value) (hk : k = 0 ∨ k = 1) (hq : q < w.heap.size) (h : Spot w q g W) : Spot w q g (W.setCell ⟨g, k, none⟩ x) ∧ W.grownBy (W.setCell ⟨g, k, none⟩ x) (some g) := by
  obtain ⟨h0, h1, h2, h3, h4, h5, h6⟩ := h
  have hg : W.grownBy (W.setCell ⟨g, k, none⟩ x) (some g) := ⟨rfl, rfl, rfl, by simp, fun i hi hne => heap_setCell_other W ⟨g, k, none⟩ i _ (fun e => hne (by rw [show i = g from e]))⟩
  have n01 : (⟨g, 1, none⟩ : Addr) ≠ ⟨g, 0, none⟩ := by intro e; injection e with _ e2; omega
  have n10 : (⟨g, 0, none⟩ : Addr) ≠ ⟨g, 1, none⟩ := by intro e; injection e with _ e2; omega
  refine ⟨⟨⟨h0.os, h0.tape, h0.output, by simpa using h0.size, fun i hi hne => (hg.block i (Nat.lt_of_lt_of_le hi h0.size) (by intro e; cases e; omega)).trans (h0.block i hi hne)⟩, h1, by simpa using h2, ?_, ?_, by rw [World.frozen?_setCell]; exact h5, by rw [World.frozen?_setCell]; exact h6⟩, hg⟩
  · rcases hk with rfl | rfl
    · exact curV_of (World.cell?_setCell_same _ _ _ h3)
    · exact curV_of (by rw [World.cell?_setCell_other _ _ _ _ n01]; exact h3)
  · rcases hk with rfl | rfl
    · exact curV_of (by rw [World.cell?_setCell_other _ _ _ _ n10]; exact h4)
    · exact curV_of (World.cell?_setCell_same _ _ _ h4)

theorem cur_store {W0 W w : World} {q g N k : Nat} {v x : Value} (hk : k = 0 ∨ k = 1) (hq : q < w.heap.size) (hw : W0.heap.size ≤ w.heap.size) (hs : Spot w q g W) (h : Cur W0 W q v N) : Cur W0 (W.setCell ⟨g, k, none⟩ x) q v N :=
  h.grown (spot_store k x hk hq hs).2 (fun j hj => by cases hj; have := hs.2.1; omega) (by intro e; cases e; have := hs.2.1; omega)

def dyL : List Int := [0, 0, 1, 2, 3, 5]

set_option maxHeartbeats 1000000 in
theorem dyadic_calls (W0 w : World) (q n N : Nat) (v : Value) (hc : CodeIn W0 v n) (hn : n ≤ 1000000) (h : Cur W0 w q v N) (hN : N ≤ 80000) :
    Calls Tryd.prog 58 #[.pointer (some ⟨q, 0, none⟩)] w fun e w' => (∃ (t : Int) (p : Nat), -20 ≤ t ∧ t ≤ 20 ∧ p ≤ 5 ∧ mkD t p = (t, p) ∧ e = .returned (.agg #[.int .i64 t, .int .i64 p])) ∧ Cur W0 w' q v (N + 4) ∧ w.grownBy w' (some q) := by
  have hlt := h.lt
  have hw : W0.heap.size ≤ w.heap.size := h.2.1.size
  have HP : ∀ (W : World) (M m : Nat), M ≤ 90000 → 1 ≤ m → m ≤ 1000 → Cur W0 W q v M → Hid (Calls Tryd.prog 65 #[.pointer (some ⟨q, 0, none⟩), .int .i64 m] W fun e w' => (∃ r : Nat, r < m ∧ e = .returned (.int .i64 r)) ∧ Cur W0 w' q v (M + 2) ∧ W.grownBy w' (some q)) := fun W M m hM h1 h2 hW => Lib.hid (pick_calls W0 W q n M m v hc hn hW (by omega) h1 (by omega))
  have HL : ∀ (W : World) (M : Nat), M ≤ 90000 → Cur W0 W q v M → Hid (Calls Tryd.prog 50 #[.pointer (some ⟨q, 0, none⟩), .slice (some ⟨W.heap.size, 0, none⟩) 6 6] (W.alloc (.cells (dyL.map (Value.int .i64)).toArray 3)) fun e w' => (∃ x ∈ dyL, e = .returned (.int .i64 x)) ∧ Cur W0 w' q v (M + 2) ∧ W.grownBy w' (some q)) := fun W M hM hW => Lib.hid (among_lit W0 W q n M v dyL _ rfl 6 rfl hc hn hW (by omega) (by decide) (by decide))
  have HM : ∀ (W : World) (t : Int) (p : Nat), -20 ≤ t → t ≤ 20 → p ≤ 5 → Hid (Calls Tryd.prog 49 #[.int .i64 t, .int .i64 p] W fun e w' => e = .returned (.agg #[.int .i64 ((mkD t p).1), .int .i64 ((mkD t p).2)]) ∧ Below W.heap.size W w') := fun W t p h1 h2 hp => Lib.hid (l2Make_calls t p W (by omega) (by omega) (by omega))
  have hS0 := Lib.hid (spot_start w q (.int .i64 0) (.int .i64 0) 25)
  have hC0 : Hid (Cur W0 (w.alloc (.cells #[.int .i64 0, .int .i64 0] 25)) q v N) := Lib.hid (h.grown (World.grownBy_alloc w _ none) (fun k hk => by cases hk) (by simp))
  clear h hc hn
  go_enter Tryd.func58, Tryd.ntmps58
  go_wp2_with fail
  refine (HP _ N 41 (by omega) (by omega) (by omega) hC0.out).out.mono ?_
  rintro e w1 ⟨⟨r, hr, rfl⟩, hc1, hg1⟩
  have HC1 := Lib.hid hc1
  have HS1 := Lib.hid (spot_next hlt hg1 (Or.inl rfl) hS0.out)
  clear hc1 hg1 hC0 hS0
  have b0 : -20 ≤ (r : Int) - 20 := by omega
  have b1 : (r : Int) - 20 ≤ 20 := by omega
  generalize ht : (r : Int) - 20 = t at b0 b1
  go_wp2_with fail
  refine (HL w1 (N + 2) (by omega) HC1.out).out.mono ?_
  rintro e w2 ⟨⟨x, hx, rfl⟩, hc2, hg2⟩
  obtain ⟨p, rfl, hp⟩ : ∃ p : Nat, x = p ∧ p ≤ 5 := by
    simp [dyL] at hx
    exact ⟨x.toNat, by omega, by omega⟩
  have HC2 := Lib.hid hc2
  have HS2 := Lib.hid (spot_next hlt hg2 (Or.inl rfl) HS1.out)
  clear hc2 hg2 hx HC1 HS1
  go_wp2_with fail
  refine (HM w2 t p b0 b1 hp).out.mono ?_
  rintro e w3 ⟨rfl, hb⟩
  have hg3 := below_grown hb
  have HC3 := Lib.hid (HC2.out.grown hg3 (fun k hk => by cases hk) (by simp))
  have HS3 := Lib.hid (spot_next hlt hg3 (Or.inr rfl) HS2.out)
  obtain ⟨k1, k2, k3⟩ := mkD_bd p t 20 b0 b1
  have k4 : mkD (mkD t p).1 (mkD t p).2 = ((mkD t p).1, (mkD t p).2) := mkD_canon (mkD_spec p t).2.2
  have K := Lib.hid (And.intro k1 (And.intro k2 (And.intro (Nat.le_trans k3 hp) k4)))
  clear k1 k2 k3 k4 hb hg3 HC2 HS2
  generalize (mkD t p).1 = t' at K
  generalize (mkD t p).2 = p' at K
  have hQ := HS3.out
  obtain ⟨_, _, s2, s3, s4, s5, s6⟩ := hQ
  go_wp2_with fail
  have U1 := spot_store 0 (.int .i64 t') (Or.inl rfl) hlt HS3.out
  have U2 := spot_store 1 (.int .i64 p') (Or.inr rfl) hlt U1.1
  have C1 := cur_store (x := .int .i64 t') (Or.inl rfl) hlt hw HS3.out HC3.out
  have C2 := cur_store (x := .int .i64 p') (Or.inr rfl) hlt hw U1.1 C1
  refine bodyPost_ret (v := .agg #[.int .i64 t', .int .i64 p']) (by simp [*, results, Tryd.results58, go_sem]) rfl ⟨⟨t', p', K.out.1, K.out.2.1, K.out.2.2.1, K.out.2.2.2, rfl⟩, C2.mono (by omega), U2.1.1⟩

end Go.Proofs.YtlblkmhiildgeaaDoor
