/- spec.l3List, spec.l3NodeAhead. -/
import Derived.Test.YtabfdaofikccmaaFmAsc
namespace Go.Proofs.Ytabfdaofikccmaa
open Go.RowKit
set_option maxHeartbeats 1000000 in
theorem l3List_calls (v v' : Value) (l m : List Int) (w : World) (lo hi lo' hi' : Nat) (h : IntsZ w lo hi v l) (h' : IntsZ w lo' hi' v' m) :
    Calls Try.prog 108 #[v, v'] w fun e w' => e = .returned (.int .i64 (cmpL l m)) ∧ ∃ n, w' = w.drewN n := by
  obtain ⟨ao, c, rfl, hl, h3⟩ := h
  obtain ⟨ao', c', rfl, hm, h3'⟩ := h'
  have H := Lib.hid h3
  have H' := Lib.hid h3'
  clear h3 h3'
  go_enter Try.func108, Try.ntmps108
  go_wp2
  go_loopw [5] (fun i wr => ∃ k : Nat, k ≤ l.length ∧ k ≤ m.length ∧ i = .int .i64 k ∧ Hid (cmpL (l.drop k) (m.drop k) = cmpL l m) ∧ Hid (∃ n, wr = w.drewN n)) (fun i _ => l.length - (intOf i).toNat)
  case atStart => exact ⟨0, Nat.zero_le _, Nat.zero_le _, rfl, Lib.hid rfl, Lib.hid ⟨0, rfl⟩⟩
  case round =>
    obtain ⟨k, hk, hk', rfl, hc, hm2⟩ := hrel
    have HD : Hid (∀ q, ∃ n, wr.drewN q = w.drewN n) := Lib.hid (fun q => by
      obtain ⟨n, e2⟩ := hm2.out
      exact ⟨n + q, by rw [e2, World.drewN_drewN]⟩)
    have HC : Hid (∀ b o, wr.cell? ⟨b, o, none⟩ = w.cell? ⟨b, o, none⟩) := Lib.hid (fun b o => by
      obtain ⟨n, e2⟩ := hm2.out
      rw [e2]; rfl)
    clear hm2
    have b0 : (0 : Int) ≤ k := by omega
    by_cases hlt : k < l.length
    · have b1 : (k : Int) < l.length := by omega
      by_cases hlt' : k < m.length
      · have b2 : (k : Int) < m.length := by omega
        obtain ⟨x, hx⟩ := lt_get hlt
        obtain ⟨b, off, rfl, _, _, c1⟩ := H.out k x hx
        obtain ⟨y, hy⟩ := lt_get hlt'
        obtain ⟨b', off', rfl, _, _, c2⟩ := H'.out k y hy
        have d1 := (HC.out b (off + k)).trans c1
        have d2 := (HC.out b' (off' + k)).trans c2
        have HDr : Hid (cmpL l m = if x = y then cmpL (l.drop (k + 1)) (m.drop (k + 1)) else cmpI x y) := Lib.hid (by
          rw [← hc.out, cmpL_drop l m k hlt hlt']
          rw [List.getElem?_eq_getElem hlt] at hx
          rw [List.getElem?_eq_getElem hlt'] at hy
          injection hx with hx
          injection hy with hy
          rw [hx, hy])
        clear hx hy hc c1 c2
        by_cases hxy : x = y
        · have R : Hid (cmpL (l.drop (k + 1)) (m.drop (k + 1)) = cmpL l m) := Lib.hid (by rw [HDr.out, if_pos hxy])
          subst hxy
          go_wp2
          go_quiet (fail)
          go_wp2
          go_roundw
          case rel => exact ⟨k + 1, by omega, by omega, by go_num, R, Lib.hid (HD.out _)⟩
          case measure => simp [intOf]; omega
        · have hne : (x != y) = true := by simpa using hxy
          by_cases hxl : x < y
          · have R : Hid (cmpL l m = -1) := Lib.hid (by rw [HDr.out, if_neg hxy]; unfold cmpI; rw [if_pos hxl])
            obtain ⟨W1, hW1⟩ : ∃ W, W = wr := ⟨_, rfl⟩
            go_wp2
            go_quiet (fail)
            go_wp2
            go_quiet (fail)
            go_wp2
            go_ret
            exact ⟨ret_int R.out.symm, by rw [World.drewN_drewN]; exact HD.out _⟩
          · have R : Hid (cmpL l m = 1) := Lib.hid (by rw [HDr.out, if_neg hxy]; unfold cmpI; rw [if_neg hxl, if_pos (by omega)])
            go_wp2
            go_quiet (fail)
            go_wp2
            go_quiet (fail)
            go_wp2
            go_ret
            exact ⟨ret_int R.out.symm, by rw [World.drewN_drewN]; exact HD.out _⟩
      · have b2 : ¬ (k : Int) < m.length := by omega
        have R : Hid (cmpL l m = 1) := Lib.hid (by
          rw [← hc.out, List.drop_eq_getElem_cons hlt, show m.drop k = [] from List.drop_eq_nil_of_le (by omega)]
          rfl)
        have h5 : ¬ (l.length : Int) < m.length := by omega
        have h6 : (m.length : Int) < l.length := by omega
        clear hc
        go_wp2
        go_ret
        exact ⟨ret_int R.out.symm, HD.out 0⟩
    · have b1 : ¬ (k : Int) < l.length := by omega
      by_cases hmm : l.length < m.length
      · have R : Hid (cmpL l m = -1) := Lib.hid (by
          rw [← hc.out, show l.drop k = [] from List.drop_eq_nil_of_le (by omega), List.drop_eq_getElem_cons (show k < m.length by omega)]
          rfl)
        have h5 : (l.length : Int) < m.length := by omega
        clear hc
        go_wp2
        go_ret
        exact ⟨ret_int R.out.symm, HD.out 0⟩
      · have R : Hid (cmpL l m = 0) := Lib.hid (by
          rw [← hc.out, show l.drop k = [] from List.drop_eq_nil_of_le (by omega), show m.drop k = [] from List.drop_eq_nil_of_le (by omega)]
          rfl)
        have h5 : ¬ (l.length : Int) < m.length := by omega
        have h6 : ¬ (m.length : Int) < l.length := by omega
        clear hc
        go_wp2
        go_ret
        exact ⟨ret_int R.out.symm, HD.out 0⟩
theorem l3List_calls' (v v' : Value) (l m : List Int) (r : Int) (hr : Hid (cmpL l m = r)) (w : World) (lo hi lo' hi' : Nat) (h : IntsZ w lo hi v l) (h' : IntsZ w lo' hi' v' m) :
    Calls Try.prog 108 #[v, v'] w fun e w' => e = .returned (.int .i64 r) ∧ ∃ n, w' = w.drewN n := by
  have := l3List_calls v v' l m w lo hi lo' hi' h h'
  rw [hr.out] at this
  exact this
theorem cmpL_sign (a b : List Nat) : (cmpL (upL a) (upL b) = 0 ↔ a = b) ∧ (cmpL (upL a) (upL b) < 0 ↔ ltL a b = true) := ⟨by rw [cmpL_eq]; exact upL_inj, cmpL_up a b⟩
set_option maxHeartbeats 1000000 in
theorem ahead_calls (v1 v2 v1' v2' : Value) (a b : Nd) (r : Bool) (hr : Hid (ltNd a b = r)) (w : World) (lo hi lo' hi' : Nat) (hh : hi ≤ w.heap.size) (hh' : hi' ≤ w.heap.size)
    (h1 : IntsZ w lo hi v1 (upL a.1)) (h2 : IntsZ w lo hi v2 (upL a.2)) (h1' : IntsZ w lo' hi' v1' (upL b.1)) (h2' : IntsZ w lo' hi' v2' (upL b.2)) :
    Calls Try.prog 98 #[.agg #[v1, v2], .agg #[v1', v2']] w fun e w' => e = .returned (.bool r) ∧ Below w.heap.size w w' := by
  have HB0 := Lib.hid fun o o' m => show Below w.heap.size w (((w.alloc o).alloc o').drewN m) from below_drewN (((Below.refl _ _).alloc (Nat.le_refl _) _).alloc (by simp) _) m
  obtain ⟨r1, hr1⟩ : ∃ r, cmpL (upL a.1) (upL b.1) = r := ⟨_, rfl⟩
  obtain ⟨r2, hr2⟩ : ∃ r, cmpL (upL a.2) (upL b.2) = r := ⟨_, rfl⟩
  obtain ⟨s1, s1'⟩ := cmpL_sign a.1 b.1
  obtain ⟨s2, s2'⟩ := cmpL_sign a.2 b.2
  rw [hr1] at s1 s1'
  rw [hr2] at s2 s2'
  have HR1 : Hid (r1 ≠ 0 → (decide (r1 < 0) = r)) := Lib.hid (fun h => by
    rw [← hr.out]
    unfold ltNd
    rw [if_neg (fun e => h (s1.2 e)), Bool.eq_iff_iff, decide_eq_true_iff]
    exact s1')
  have HR2 : Hid (r1 = 0 → (decide (r2 < 0) = r)) := Lib.hid (fun h => by
    rw [← hr.out]
    unfold ltNd
    rw [if_pos (s1.1 h), Bool.eq_iff_iff, decide_eq_true_iff]
    exact s2')
  have C1 := Lib.hid fun (W : World) (hW : Below w.heap.size w W) => l3List_calls' v1 v1' (upL a.1) (upL b.1) r1 (Lib.hid hr1) W lo hi lo' hi' (h1.below hW hh) (h1'.below hW hh')
  have C2 := Lib.hid fun (W : World) (hW : Below w.heap.size w W) => l3List_calls' v2 v2' (upL a.2) (upL b.2) r2 (Lib.hid hr2) W lo hi lo' hi' (h2.below hW hh) (h2'.below hW hh')
  clear h1 h2 h1' h2' hr1 hr2 s1 s1' s2 s2'
  go_enter Try.func98, Try.ntmps98
  go_wp2_with fail
  refine (C1.out _ (HB0.out _ _ 0)).mono ?_
  rintro e w4 ⟨rfl, n4, rfl⟩
  by_cases h : r1 = 0
  · have hz : (r1 != 0) = false := by simp [h]
    have R := Lib.hid (HR2.out h)
    clear h HR1 HR2
    go_wp2_with fail
    refine (C2.out _ (HB0.out _ _ _)).mono ?_
    rintro e w5 ⟨rfl, n5, rfl⟩
    go_wp2_with fail
    go_ret
    exact ⟨ret_bool R.out, HB0.out _ _ _⟩
  · have hz : (r1 != 0) = true := by simp [h]
    have R := Lib.hid (HR1.out h)
    clear HR1 HR2
    go_wp2_with fail
    go_ret
    exact ⟨ret_bool R.out, HB0.out _ _ _⟩

end Go.Proofs.Ytabfdaofikccmaa
