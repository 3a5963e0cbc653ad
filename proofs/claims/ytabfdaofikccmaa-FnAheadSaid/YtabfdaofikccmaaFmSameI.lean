/- The program's SameForm, and the model's. -/
import Derived.Test.YtabfdaofikccmaaFmSame
namespace Go.Proofs.Ytabfdaofikccmaa
open Go.RowKit
theorem boolOf_eq {a b : Nz} {r : Int} (h : cmpNd a b = r) : (r = 0 ↔ a = b) := by rw [← h]; exact cmpNd_eq a b
theorem sameClo_calls (v1 v2 v1' v2' : Value) (a b : Nz) (w : World) (lo hi lo' hi' : Nat) (hh : hi ≤ w.heap.size) (hh' : hi' ≤ w.heap.size)
    (h1 : IntsZ w lo hi v1 a.1) (h2 : IntsZ w lo hi v2 a.2) (h1' : IntsZ w lo' hi' v1' b.1) (h2' : IntsZ w lo' hi' v2' b.2) :
    Calls Try.prog 58 #[.agg #[v1, v2], .agg #[v1', v2']] w fun e w' => e = .returned (.bool (decide (a = b))) ∧ Below w.heap.size w w' := by
  have HB0 := Lib.hid fun o o' => show Below w.heap.size w ((w.alloc o).alloc o') from ((Below.refl _ _).alloc (Nat.le_refl _) _).alloc (by simp) _
  obtain ⟨r, hr⟩ : ∃ r, cmpNd a b = r := ⟨_, rfl⟩
  have HR : Hid (decide (a = b) = (r == 0)) := Lib.hid (by rw [Bool.eq_iff_iff]; simp [boolOf_eq hr])
  have C := Lib.hid fun (W : World) (hW : Below w.heap.size w W) => (cmpOpts_calls v1 v2 v1' v2' a b W lo hi lo' hi' (by have := hW.size; omega) (by have := hW.size; omega) (h1.below hW hh) (h2.below hW hh) (h1'.below hW hh') (h2'.below hW hh')).mono fun e w' h => (⟨by rw [← hr]; exact h.1, h.2⟩ : e = .returned (.int .i64 r) ∧ Below W.heap.size W w')
  clear h1 h2 h1' h2' hr
  go_enter Try.func58, Try.ntmps58
  go_wp2_with fail
  refine (C.out _ (HB0.out _ _)).mono ?_
  rintro e w4 ⟨rfl, hb⟩
  have HB4 := Lib.hid (Below.trans (HB0.out _ _) (hb.mono (by simp; omega)))
  clear hb
  go_wp2_with fail
  go_ret
  exact ⟨ret_bool HR.out.symm, HB4.out⟩

set_option maxHeartbeats 1000000 in
theorem equalFunc_calls (v v' : Value) (f g : List Nz) (w : World) (lo hi lo' hi' : Nat) (hh : hi ≤ w.heap.size) (hh' : hi' ≤ w.heap.size) (h : NodesZ w lo hi v f) (h' : NodesZ w lo' hi' v' g) :
    Calls Try.prog 57 #[v, v', .func (.func 58) #[] #[]] w fun e w' => e = .returned (.bool (decide (f = g))) ∧ Below w.heap.size w w' := by
  have H := Lib.hid h
  have H' := Lib.hid h'
  obtain ⟨ao, c, rfl, hl, _⟩ := h
  obtain ⟨ao', c', rfl, hm, _⟩ := h'
  by_cases hlen : f.length = g.length
  · have HL := Lib.hid hlen
    have hlm : (f.length : Int) ≤ g.length := by omega
    have hml : (g.length : Int) ≤ f.length := by omega
    have hne : ((f.length : Int) != g.length) = false := by simp [hlen]
    clear hlen
    go_enter Try.func57, Try.ntmps57
    go_wp2
    go_loopw [17] (fun i wr => ∃ k : Nat, k ≤ f.length ∧ i = .int .i64 k ∧ Hid (f.take k = g.take k) ∧ Hid (Below w.heap.size w wr)) (fun i _ => f.length - (intOf i).toNat)
    case atStart => exact ⟨0, Nat.zero_le _, rfl, Lib.hid (by simp), Lib.hid (Below.refl _ _)⟩
    case round =>
      obtain ⟨k, hk, rfl, ht, hb⟩ := hrel
      by_cases hlt : k < f.length
      · obtain ⟨x, hx⟩ := lt_get hlt
        obtain ⟨y, hy⟩ := lt_get (l := g) (i := k) (by omega)
        obtain ⟨ao1, c1, e1, _, hn⟩ := H.out.below hb.out (by omega)
        obtain ⟨b, off, v1, v2, rfl, _, _, p1, p2, i1, i2⟩ := hn k x hx
        injection e1 with e1 q1 q2
        obtain rfl := e1
        clear q1 q2 hn
        obtain ⟨ao2, c2, e2, _, hn2⟩ := H'.out.below hb.out (by omega)
        obtain ⟨b', off', v1', v2', rfl, _, _, p1', p2', i1', i2'⟩ := hn2 k y hy
        injection e2 with e2 q1 q2
        obtain rfl := e2
        clear q1 q2 hn2
        have hbz := hb.out.size
        have lb : b < wr.heap.size := block_of_cell p1
        have lb' : b' < wr.heap.size := block_of_cell p1'
        obtain ⟨f1, h1⟩ : ∃ a n c, v1 = .slice a n c := by obtain ⟨a, c, h, _⟩ := i1; exact ⟨a, _, c, h⟩
        obtain ⟨f2, h2⟩ : ∃ a n c, v2 = .slice a n c := by obtain ⟨a, c, h, _⟩ := i2; exact ⟨a, _, c, h⟩
        obtain ⟨f3, h3⟩ : ∃ a n c, v1' = .slice a n c := by obtain ⟨a, c, h, _⟩ := i1'; exact ⟨a, _, c, h⟩
        obtain ⟨f4, h4⟩ : ∃ a n c, v2' = .slice a n c := by obtain ⟨a, c, h, _⟩ := i2'; exact ⟨a, _, c, h⟩
        obtain ⟨h1n, h1c, rfl⟩ := h1
        obtain ⟨h2n, h2c, rfl⟩ := h2
        obtain ⟨h3n, h3c, rfl⟩ := h3
        obtain ⟨h4n, h4c, rfl⟩ := h4
        have C := Lib.hid fun (W : World) (hW : Below wr.heap.size wr W) => sameClo_calls _ _ _ _ x y W lo hi lo' hi' (by have := hW.size; omega) (by have := hW.size; omega) (i1.below hW (by omega)) (i2.below hW (by omega)) (i1'.below hW (by omega)) (i2'.below hW (by omega))
        have HX := Lib.hid hx
        have HY := Lib.hid hy
        clear hx hy i1 i2 i1' i2'
        have b0 : (0 : Int) ≤ k := by omega
        have b1 : (k : Int) < f.length := by omega
        have b2 : (k : Int) < g.length := by omega
        by_cases e1 : x = y
        · have E1 : decide (x = y) = true := by simpa using e1
          rw [E1] at C
          have R : Hid (f.take (k + 1) = g.take (k + 1)) := Lib.hid (nodes_take ht.out HX.out HY.out (by rw [e1]) (by rw [e1]))
          clear e1 E1
          go_wp2_with fail
          refine (C.out _ ?_).mono ?_
          · (repeat' (first | exact Below.refl _ _ | refine Below.setCell ?_ ?_ _ | refine Below.alloc ?_ ?_ _)) <;> (first | omega | (simp; done) | (simp; omega))
          rintro e w4 ⟨rfl, hb4⟩
          have HB4 : Hid (Below w.heap.size w w4) := Lib.hid (by
            refine hb.out.trans (Below.mono (B := wr.heap.size) ?_ hbz)
            refine Below.trans ?_ (hb4.mono ?_)
            · (repeat' (first | exact Below.refl _ _ | refine Below.setCell ?_ ?_ _ | refine Below.alloc ?_ ?_ _)) <;> (first | omega | (simp; done) | (simp; omega))
            · simp; omega)
          clear hb4
          go_wp2_with fail
          go_roundw
          case rel => exact ⟨k + 1, by omega, by go_num, R, HB4⟩
          case measure => simp [intOf]; omega
        · have E1 : decide (x = y) = false := by simpa using e1
          rw [E1] at C
          have R : Hid (decide (f = g) = false) := Lib.hid (by
            rw [decide_eq_false_iff_not]
            intro e
            have h1 := HX.out
            rw [e, HY.out] at h1
            injection h1 with h1
            exact e1 h1.symm)
          clear e1 E1
          go_wp2_with fail
          refine (C.out _ ?_).mono ?_
          · (repeat' (first | exact Below.refl _ _ | refine Below.setCell ?_ ?_ _ | refine Below.alloc ?_ ?_ _)) <;> (first | omega | (simp; done) | (simp; omega))
          rintro e w4 ⟨rfl, hb4⟩
          have HB4 : Hid (Below w.heap.size w w4) := Lib.hid (by
            refine hb.out.trans (Below.mono (B := wr.heap.size) ?_ hbz)
            refine Below.trans ?_ (hb4.mono ?_)
            · (repeat' (first | exact Below.refl _ _ | refine Below.setCell ?_ ?_ _ | refine Below.alloc ?_ ?_ _)) <;> (first | omega | (simp; done) | (simp; omega))
            · simp; omega)
          clear hb4
          go_wp2_with fail
          go_ret
          exact ⟨ret_bool R.out.symm, HB4.out⟩
      · have R : Hid (decide (f = g) = true) := Lib.hid (by
          have h1 := ht.out
          rw [List.take_of_length_le (by omega), List.take_of_length_le (by have := HL.out; omega)] at h1
          simpa using h1)
        go_wp2
        go_ret
        exact ⟨ret_bool R.out.symm, hb.out⟩
  · have R : Hid (decide (f = g) = false) := Lib.hid (by rw [decide_eq_false_iff_not]; intro e; exact hlen (by rw [e]))
    have hne : ((f.length : Int) != g.length) = true := by simp; omega
    have hne2 : ¬ (f.length : Int) = g.length := by omega
    clear hlen H H'
    go_enter Try.func57, Try.ntmps57
    go_wp2
    go_ret
    exact ⟨ret_bool R.out.symm, Below.refl _ _⟩
set_option maxHeartbeats 400000 in
theorem sameI_calls (v v' : Value) (f g : List Nz) (w : World) (lo hi lo' hi' : Nat) (hh : hi ≤ w.heap.size) (hh' : hi' ≤ w.heap.size) (h : NodesZ w lo hi v f) (h' : NodesZ w lo' hi' v' g) :
    Calls Try.prog 26 #[.agg #[v], .agg #[v']] w fun e w' => e = .returned (.bool (decide (f = g))) ∧ Below w.heap.size w w' := by
  have HB0 := Lib.hid fun o o' => show Below w.heap.size w ((w.alloc o).alloc o') from ((Below.refl _ _).alloc (Nat.le_refl _) _).alloc (by simp) _
  have C := Lib.hid fun (W : World) (hW : Below w.heap.size w W) => equalFunc_calls v v' f g W lo hi lo' hi' (by have := hW.size; omega) (by have := hW.size; omega) (h.below hW hh) (h'.below hW hh')
  clear h h'
  generalize decide (f = g) = r at C ⊢
  go_enter Try.func26, Try.ntmps26
  go_wp2_with fail
  refine (C.out _ (HB0.out _ _)).mono ?_
  rintro e w4 ⟨rfl, hb⟩
  have HB4 := Lib.hid (Below.trans (HB0.out _ _) (hb.mono (by simp; omega)))
  clear hb
  go_wp2_with fail
  go_ret
  exact ⟨rfl, HB4.out⟩
end Go.Proofs.Ytabfdaofikccmaa
