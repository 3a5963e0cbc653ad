/- The draw of a number that may not be good. -/
import Derived.Test.YtlblkmhiildgeaaDoorDyDraw
import Derived.Deep.DeepCutAuto
namespace Go.Proofs.YtlblkmhiildgeaaDoor
open Go.RowKit
set_option linter.unusedVariables false

/-- the place of the answer, and a number x, y at g -/
def Duo (w : World) (q g : Nat) (x y : Value) (W : World) : Prop := Spot w q w.heap.size W ∧ Spot w q g W ∧ w.heap.size < g ∧ W.cell? ⟨g, 0, none⟩ = some x ∧ W.cell? ⟨g, 1, none⟩ = some y

theorem duo_start {w W : World} {q : Nat} (x y : Value) (t : TypeId) (hq : q < w.heap.size) (h : Spot w q w.heap.size W) : Duo w q W.heap.size x y (W.alloc (.cells #[x, y] t)) := by
  have e := heap_alloc_new W (.cells #[x, y] t)
  have hl := h.1.size
  have hz := h.2.2.1
  refine ⟨spot_next hq (World.grownBy_alloc W _ none) (Or.inr rfl) h, ⟨?_, hl, by simp, ?_, ?_, free_of_block e 0, free_of_block e 1⟩, by omega, ?_, ?_⟩
  · exact gtrans h.1 (World.grownBy_alloc W _ _)
  · exact curV_of (v := x) (by simp only [World.cell?, e]; rfl)
  · exact curV_of (v := y) (by simp only [World.cell?, e]; rfl)
  · simp only [World.cell?, e]; rfl
  · simp only [World.cell?, e]; rfl

theorem duo_next {w W w1 : World} {q g : Nat} {x y : Value} {row : Option Nat} (hq : q < w.heap.size) (hb : W.grownBy w1 row) (hr : row = some q ∨ row = none) (h : Duo w q g x y W) : Duo w q g x y w1 := by
  obtain ⟨h0, h1, h2, h3, h4⟩ := h
  have hne : some g ≠ row := by
    rcases hr with rfl | rfl
    · intro e; cases e; omega
    · intro e; cases e
  have e := hb.block g h1.2.2.1 hne
  refine ⟨spot_next hq hb hr h0, spot_next hq hb hr h1, h2, ?_, ?_⟩
  · rw [← h3]; simp only [World.cell?, e]
  · rw [← h4]; simp only [World.cell?, e]

theorem spot_far {w W : World} {q g g' k : Nat} {x : Value} (hne : g ≠ g') (h : Spot w q g W) (h' : Spot w q g' W) (hk : k = 0 ∨ k = 1) (hq : q < w.heap.size) : Spot w q g (W.setCell ⟨g', k, none⟩ x) := by
  obtain ⟨h0, h1, h2, h3, h4, h5, h6⟩ := h
  exact ⟨(spot_store k x hk hq h').1.1, h1, by simpa using h2, curV_of (by rw [cell_far hne]; exact h3), curV_of (by rw [cell_far hne]; exact h4), by rw [World.frozen?_setCell]; exact h5, by rw [World.frozen?_setCell]; exact h6⟩

theorem duo_store0 {w W : World} {q g : Nat} {x y : Value} (u : Value) (hq : q < w.heap.size) (h : Duo w q g x y W) : Duo w q g u y (W.setCell ⟨g, 0, none⟩ u) := by
  obtain ⟨h0, h1, h2, h3, h4⟩ := h
  have n01 : (⟨g, 0, none⟩ : Addr) ≠ ⟨g, 1, none⟩ := by intro e; injection e with _ e2; omega
  exact ⟨spot_far (by omega) h0 h1 (Or.inl rfl) hq, (spot_store 0 u (Or.inl rfl) hq h1).1, h2, World.cell?_setCell_same _ _ _ h3, by rw [World.cell?_setCell_other _ _ _ _ n01]; exact h4⟩

theorem duo_store1 {w W : World} {q g : Nat} {x y : Value} (u : Value) (hq : q < w.heap.size) (h : Duo w q g x y W) : Duo w q g x u (W.setCell ⟨g, 1, none⟩ u) := by
  obtain ⟨h0, h1, h2, h3, h4⟩ := h
  have n01 : (⟨g, 0, none⟩ : Addr) ≠ ⟨g, 1, none⟩ := by intro e; injection e with _ e2; omega
  exact ⟨spot_far (by omega) h0 h1 (Or.inr rfl) hq, (spot_store 1 u (Or.inr rfl) hq h1).1, h2, by rw [World.cell?_setCell_other _ _ _ _ n01.symm]; exact h3, World.cell?_setCell_same _ _ _ h4⟩

theorem duo_end {W0 w W : World} {q g N : Nat} {x y v : Value} (M : Nat) (a b : Value) (hNM : N ≤ M) (hq : q < w.heap.size) (hw : W0.heap.size ≤ w.heap.size) (hD : Duo w q g x y W) (hC : Cur W0 W q v N) :
    Cur W0 ((W.setCell ⟨w.heap.size, 0, none⟩ a).setCell ⟨w.heap.size, 1, none⟩ b) q v M ∧ w.grownBy ((W.setCell ⟨w.heap.size, 0, none⟩ a).setCell ⟨w.heap.size, 1, none⟩ b) (some q) := by
  have U1 := spot_store 0 a (Or.inl rfl) hq hD.1
  have U2 := spot_store 1 b (Or.inr rfl) hq U1.1
  exact ⟨(cur_store (x := b) (Or.inr rfl) hq hw U1.1 (cur_store (x := a) (Or.inl rfl) hq hw hD.1 hC)).mono hNM, U2.1.1⟩

def topL : List Int := [1000000, -1000000, 1000001, -1000001, 999999]
def powL : List Int := [-1, 16, 17]
def finL : List Int := [14, 15, 16]

set_option maxHeartbeats 4000000 in
theorem anyDyadic_calls (W0 w : World) (q n N : Nat) (v : Value) (hc : CodeIn W0 v n) (hn : n ≤ 1000000) (h : Cur W0 w q v N) (hN : N ≤ 70000) :
    Calls Tryd.prog 38 #[.pointer (some ⟨q, 0, none⟩)] w fun e w' => (∃ t p : Int, (-2000000 ≤ t ∧ t ≤ 2000000 ∧ -1 ≤ p ∧ p ≤ 20) ∧ e = .returned (.agg #[.int .i64 t, .int .i64 p])) ∧ Cur W0 w' q v (N + 16) ∧ w.grownBy w' (some q) := by
  have hlt := h.lt
  have hw : W0.heap.size ≤ w.heap.size := h.2.1.size
  have HD : ∀ (W : World) (M : Nat), M ≤ 80000 → Cur W0 W q v M → Hid (Calls Tryd.prog 58 #[.pointer (some ⟨q, 0, none⟩)] W fun e w' => (∃ (t : Int) (p : Nat), -20 ≤ t ∧ t ≤ 20 ∧ p ≤ 5 ∧ mkD t p = (t, p) ∧ e = .returned (.agg #[.int .i64 t, .int .i64 p])) ∧ Cur W0 w' q v (M + 4) ∧ W.grownBy w' (some q)) := fun W M hM hW => Lib.hid (dyadic_calls W0 W q n M v hc hn hW (by omega))
  have HP : ∀ (W : World) (M m : Nat), M ≤ 90000 → 1 ≤ m → m ≤ 1000 → Cur W0 W q v M → Hid (Calls Tryd.prog 65 #[.pointer (some ⟨q, 0, none⟩), .int .i64 m] W fun e w' => (∃ r : Nat, r < m ∧ e = .returned (.int .i64 r)) ∧ Cur W0 w' q v (M + 2) ∧ W.grownBy w' (some q)) := fun W M m hM h1 h2 hW => Lib.hid (pick_calls W0 W q n M m v hc hn hW (by omega) h1 (by omega))
  have HLtop : ∀ (W : World) (M : Nat), M ≤ 90000 → Cur W0 W q v M → Hid (Calls Tryd.prog 50 #[.pointer (some ⟨q, 0, none⟩), .slice (some ⟨W.heap.size, 0, none⟩) 5 5] (W.alloc (.cells (topL.map (Value.int .i64)).toArray 3)) fun e w' => (∃ x ∈ topL, e = .returned (.int .i64 x)) ∧ Cur W0 w' q v (M + 2) ∧ W.grownBy w' (some q)) := fun W M hM hW => Lib.hid (among_lit W0 W q n M v topL _ rfl 5 rfl hc hn hW (by omega) (by decide) (by decide))
  have HLpow : ∀ (W : World) (M : Nat), M ≤ 90000 → Cur W0 W q v M → Hid (Calls Tryd.prog 50 #[.pointer (some ⟨q, 0, none⟩), .slice (some ⟨W.heap.size, 0, none⟩) 3 3] (W.alloc (.cells (powL.map (Value.int .i64)).toArray 3)) fun e w' => (∃ x ∈ powL, e = .returned (.int .i64 x)) ∧ Cur W0 w' q v (M + 2) ∧ W.grownBy w' (some q)) := fun W M hM hW => Lib.hid (among_lit W0 W q n M v powL _ rfl 3 rfl hc hn hW (by omega) (by decide) (by decide))
  have HLfin : ∀ (W : World) (M : Nat), M ≤ 90000 → Cur W0 W q v M → Hid (Calls Tryd.prog 50 #[.pointer (some ⟨q, 0, none⟩), .slice (some ⟨W.heap.size, 0, none⟩) 3 3] (W.alloc (.cells (finL.map (Value.int .i64)).toArray 3)) fun e w' => (∃ x ∈ finL, e = .returned (.int .i64 x)) ∧ Cur W0 w' q v (M + 2) ∧ W.grownBy w' (some q)) := fun W M hM hW => Lib.hid (among_lit W0 W q n M v finL _ rfl 3 rfl hc hn hW (by omega) (by decide) (by decide))
  have HM : ∀ (W : World) (t : Int) (p : Nat), 0 ≤ t → t ≤ 1000 → p ≤ 16 → Hid (Calls Tryd.prog 49 #[.int .i64 t, .int .i64 p] W fun e w' => e = .returned (.agg #[.int .i64 ((mkD t p).1), .int .i64 ((mkD t p).2)]) ∧ Below W.heap.size W w') := fun W t p h1 h2 hp => Lib.hid (l2Make_calls t p W (by omega) (by omega) (by omega))
  have hS0 := Lib.hid (spot_start w q (.int .i64 0) (.int .i64 0) 25)
  have hC0 : Hid (Cur W0 (w.alloc (.cells #[.int .i64 0, .int .i64 0] 25)) q v N) := Lib.hid (h.grown (World.grownBy_alloc w _ none) (fun k hk => by cases hk) (by simp))
  clear h hc hn
  go_enter Tryd.func38, Tryd.ntmps38
  go_wp2_with fail
  refine (HD _ N (by omega) hC0.out).out.mono ?_
  rintro e w1 ⟨⟨t, p, t1, t2, p1, _, rfl⟩, hc1, hg1⟩
  have hS1 := spot_next hlt hg1 (Or.inl rfl) hS0.out
  have HD1 := Lib.hid (duo_start (.int .i64 t) (.int .i64 p) 25 hlt hS1)
  have HC1 : Hid (Cur W0 (w1.alloc (.cells #[.int .i64 t, .int .i64 p] 25)) q v (N + 4)) := Lib.hid (hc1.grown (World.grownBy_alloc w1 _ none) (fun k hk => by cases hk) (by simp))
  have TB := Lib.hid (And.intro t1 (And.intro t2 p1))
  clear hc1 hg1 hS1 hS0 hC0 t1 t2 p1
  go_wp2_with fail
  refine (HP _ (N + 4) 20 (by omega) (by omega) (by omega) HC1.out).out.mono ?_
  rintro e w2 ⟨⟨r, hr, rfl⟩, hc2, hg2⟩
  have HC2 := Lib.hid hc2
  have HD2 := Lib.hid (duo_next hlt hg2 (Or.inl rfl) HD1.out)
  clear hc2 hg2 HC1 HD1
  generalize w1.heap.size = g at HD2 ⊢
  have hr0 : (0 : Int) ≤ r := by omega
  have hr1 : (r : Int) < 20 := by omega
  generalize (r : Int) = z at hr0 hr1
  clear hr
  obtain rfl | rfl | rfl | rfl | hz : z = 0 ∨ z = 1 ∨ z = 2 ∨ z = 3 ∨ 4 ≤ z := by omega
  · go_wp2_with fail
    refine (HLtop _ (N + 6) (by omega) HC2.out).out.mono ?_
    rintro e w3 ⟨⟨x, hx, rfl⟩, hc3, hg3⟩
    have HX : Hid (-2000000 ≤ x ∧ x ≤ 2000000) := Lib.hid (by
      simp [topL] at hx
      omega)
    have HD3 := Lib.hid (duo_next hlt hg3 (Or.inl rfl) HD2.out)
    have HC3 := Lib.hid hc3
    clear hx hc3 hg3 HC2 HD2
    have HD2 := Lib.hid (duo_store0 (.int .i64 x) hlt HD3.out)
    have HC2 := Lib.hid (cur_store (x := .int .i64 x) (Or.inl rfl) hlt hw HD3.out.2.1 HC3.out)
    obtain ⟨_, ⟨_, _, s2, _, _, s5, s6⟩, s7, s8, s9⟩ := HD3.out
    go_upto_region 11 with fail
    clear s2 s5 s6 s7 s8 s9 HC3 HD3
    generalize w3.setCell ⟨g, 0, none⟩ (.int .i64 x) = w2 at HD2 HC2 ⊢
    obtain ⟨⟨_, _, m2, m3, m4, m5, m6⟩, ⟨_, _, s2, s3, s4, s5, s6⟩, s7, s8, s9⟩ := HD2.out
    clear s3 s4
    go_wp2_with fail
    have HE := duo_end (N + 16) (.int .i64 x) (.int .i64 p) (N := N + 8) (by omega) hlt hw HD2.out HC2.out
    refine bodyPost_ret (v := .agg #[.int .i64 x, .int .i64 p]) (by simp [*, results, Tryd.results38, go_sem]) rfl ⟨⟨x, p, ⟨HX.out.1, HX.out.2, by have := TB.out; omega, by have := TB.out; omega⟩, rfl⟩, HE.1, HE.2⟩

  · go_wp2_with fail
    refine (HLpow _ (N + 6) (by omega) HC2.out).out.mono ?_
    rintro e w3 ⟨⟨x, hx, rfl⟩, hc3, hg3⟩
    have HX : Hid (-1 ≤ x ∧ x ≤ 20) := Lib.hid (by
      simp [powL] at hx
      omega)
    have HD3 := Lib.hid (duo_next hlt hg3 (Or.inl rfl) HD2.out)
    have HC3 := Lib.hid hc3
    clear hx hc3 hg3 HC2 HD2
    have HD2 := Lib.hid (duo_store1 (.int .i64 x) hlt HD3.out)
    have HC2 := Lib.hid (cur_store (x := .int .i64 x) (Or.inr rfl) hlt hw HD3.out.2.1 HC3.out)
    obtain ⟨_, ⟨_, _, s2, _, _, s5, s6⟩, s7, s8, s9⟩ := HD3.out
    go_upto_region 11 with fail
    clear s2 s5 s6 s7 s8 s9 HC3 HD3
    generalize w3.setCell ⟨g, 1, none⟩ (.int .i64 x) = w2 at HD2 HC2 ⊢
    obtain ⟨⟨_, _, m2, m3, m4, m5, m6⟩, ⟨_, _, s2, s3, s4, s5, s6⟩, s7, s8, s9⟩ := HD2.out
    clear s3 s4
    go_wp2_with fail
    have HE := duo_end (N + 16) (.int .i64 t) (.int .i64 x) (N := N + 8) (by omega) hlt hw HD2.out HC2.out
    refine bodyPost_ret (v := .agg #[.int .i64 t, .int .i64 x]) (by simp [*, results, Tryd.results38, go_sem]) rfl ⟨⟨t, x, ⟨by have := TB.out; omega, by have := TB.out; omega, HX.out.1, HX.out.2⟩, rfl⟩, HE.1, HE.2⟩

  · go_wp2_with fail
    refine (HP _ (N + 6) 4 (by omega) (by omega) (by omega) HC2.out).out.mono ?_
    rintro e w3 ⟨⟨r1, hr1', rfl⟩, hc3, hg3⟩
    have HD3 := Lib.hid (duo_next hlt hg3 (Or.inl rfl) HD2.out)
    have HC3 := Lib.hid hc3
    clear hc3 hg3 HC2 HD2
    go_wp2_with fail
    refine (HP _ (N + 8) 3 (by omega) (by omega) (by omega) HC3.out).out.mono ?_
    rintro e w4 ⟨⟨r2, hr2', rfl⟩, hc4, hg4⟩
    have HD4 := Lib.hid (duo_next hlt hg4 (Or.inl rfl) HD3.out)
    have HC4 := Lib.hid hc4
    clear hc4 hg4 HC3 HD3
    have HX : Hid (r1 < 4 ∧ r2 < 3) := Lib.hid ⟨hr1', hr2'⟩
    have HD5 := Lib.hid (duo_store0 (.int .i64 (2 * (r1 : Int))) hlt HD4.out)
    have HC5 := Lib.hid (cur_store (x := .int .i64 (2 * (r1 : Int))) (Or.inl rfl) hlt hw HD4.out.2.1 HC4.out)
    have HD2 := Lib.hid (duo_store1 (.int .i64 (1 + (r2 : Int))) hlt HD5.out)
    have HC2 := Lib.hid (cur_store (x := .int .i64 (1 + (r2 : Int))) (Or.inr rfl) hlt hw HD5.out.2.1 HC5.out)
    obtain ⟨_, ⟨_, _, s2, _, _, s5, s6⟩, s7, s8, s9⟩ := HD4.out
    go_upto_region 11 with fail
    clear s2 s5 s6 s7 s8 s9 HC4 HD4 HC5 HD5
    generalize (w4.setCell ⟨g, 0, none⟩ (.int .i64 (2 * (r1 : Int)))).setCell ⟨g, 1, none⟩ (.int .i64 (1 + (r2 : Int))) = w2 at HD2 HC2 ⊢
    obtain ⟨⟨_, _, m2, m3, m4, m5, m6⟩, ⟨_, _, s2, s3, s4, s5, s6⟩, s7, s8, s9⟩ := HD2.out
    clear s3 s4
    go_wp2_with fail
    have HE := duo_end (N + 16) (.int .i64 (2 * (r1 : Int))) (.int .i64 (1 + (r2 : Int))) (N := N + 10) (by omega) hlt hw HD2.out HC2.out
    refine bodyPost_ret (v := .agg #[.int .i64 (2 * (r1 : Int)), .int .i64 (1 + (r2 : Int))]) (by simp [*, results, Tryd.results38, go_sem]) rfl ⟨⟨(2 * (r1 : Int)), (1 + (r2 : Int)), ⟨by have := HX.out; omega, by have := HX.out; omega, by have := HX.out; omega, by have := HX.out; omega⟩, rfl⟩, HE.1, HE.2⟩

  · go_wp2_with fail
    refine (HP _ (N + 6) 400 (by omega) (by omega) (by omega) HC2.out).out.mono ?_
    rintro e w3 ⟨⟨r1, hr1', rfl⟩, hc3, hg3⟩
    have HD3 := Lib.hid (duo_next hlt hg3 (Or.inl rfl) HD2.out)
    have HC3 := Lib.hid hc3
    clear hc3 hg3 HC2 HD2
    have b0 : 0 ≤ (r1 : Int) * 2 + 1 := by omega
    have b1 : (r1 : Int) * 2 + 1 ≤ 1000 := by omega
    go_wp2_with fail
    refine (HLfin _ (N + 8) (by omega) HC3.out).out.mono ?_
    rintro e w4 ⟨⟨x, hx, rfl⟩, hc4, hg4⟩
    obtain ⟨k, rfl, hk⟩ : ∃ k : Nat, x = k ∧ k ≤ 16 := by
      simp [finL] at hx
      exact ⟨x.toNat, by omega, by omega⟩
    have HD4 := Lib.hid (duo_next hlt hg4 (Or.inl rfl) HD3.out)
    have HC4 := Lib.hid hc4
    clear hc4 hg4 hx HC3 HD3
    generalize (r1 : Int) * 2 + 1 = u at b0 b1 ⊢
    go_wp2_with fail
    refine (HM _ u k b0 b1 hk).out.mono ?_
    rintro e w5 ⟨rfl, hb⟩
    have hg5 := below_grown hb
    have HD5 := Lib.hid (duo_next hlt hg5 (Or.inr rfl) HD4.out)
    have HC5 := Lib.hid (HC4.out.grown hg5 (fun k hk => by cases hk) (by simp))
    obtain ⟨k1, k2, k3⟩ := mkD_bd k u 1000 (by omega) b1
    have HX := Lib.hid (And.intro k1 (And.intro k2 (Nat.le_trans k3 hk)))
    clear k1 k2 k3 hb hg5 HC4 HD4
    generalize (mkD u k).1 = t' at HX ⊢
    generalize (mkD u k).2 = p' at HX ⊢
    have HD6 := Lib.hid (duo_store0 (.int .i64 t') hlt HD5.out)
    have HC6 := Lib.hid (cur_store (x := .int .i64 t') (Or.inl rfl) hlt hw HD5.out.2.1 HC5.out)
    have HD2 := Lib.hid (duo_store1 (.int .i64 p') hlt HD6.out)
    have HC2 := Lib.hid (cur_store (x := .int .i64 p') (Or.inr rfl) hlt hw HD6.out.2.1 HC6.out)
    obtain ⟨_, ⟨_, _, s2, _, _, s5, s6⟩, s7, s8, s9⟩ := HD5.out
    go_upto_region 11 with fail
    clear s2 s5 s6 s7 s8 s9 HC5 HD5 HC6 HD6
    generalize (w5.setCell ⟨g, 0, none⟩ (.int .i64 t')).setCell ⟨g, 1, none⟩ (.int .i64 p') = w2 at HD2 HC2 ⊢
    obtain ⟨⟨_, _, m2, m3, m4, m5, m6⟩, ⟨_, _, s2, s3, s4, s5, s6⟩, s7, s8, s9⟩ := HD2.out
    clear s3 s4
    go_wp2_with fail
    have HE := duo_end (N + 16) (.int .i64 t') (.int .i64 p') (N := N + 10) (by omega) hlt hw HD2.out HC2.out
    refine bodyPost_ret (v := .agg #[.int .i64 t', .int .i64 p']) (by simp [*, results, Tryd.results38, go_sem]) rfl ⟨⟨t', p', ⟨by have := HX.out; omega, by have := HX.out; omega, by have := HX.out; omega, by have := HX.out; omega⟩, rfl⟩, HE.1, HE.2⟩

  · have z0 : ¬ z = 0 := by omega
    have z1 : ¬ z = 1 := by omega
    have z2 : ¬ z = 2 := by omega
    have z3 : ¬ z = 3 := by omega
    obtain ⟨⟨_, _, m2, m3, m4, m5, m6⟩, ⟨_, _, s2, s3, s4, s5, s6⟩, s7, s8, s9⟩ := HD2.out
    clear s3 s4
    go_wp2_with fail
    have HE := duo_end (N + 16) (.int .i64 t) (.int .i64 p) (N := N + 6) (by omega) hlt hw HD2.out HC2.out
    refine bodyPost_ret (v := .agg #[.int .i64 t, .int .i64 p]) (by simp [*, results, Tryd.results38, go_sem]) rfl ⟨⟨t, p, ⟨by have := TB.out; omega, by have := TB.out; omega, by have := TB.out; omega, by have := TB.out; omega⟩, rfl⟩, HE.1, HE.2⟩

end Go.Proofs.YtlblkmhiildgeaaDoor
