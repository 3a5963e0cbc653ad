/- SameForm, the program's and the model's. -/
import Derived.Test.YtabfdaofikccmaaFmCmp
namespace Go.Proofs.Ytabfdaofikccmaa
open Go.RowKit
set_option maxHeartbeats 400000 in
theorem l1Same_calls (v v' : Value) (l m : List Int) (w : World) (lo hi lo' hi' : Nat) (h : IntsZ w lo hi v l) (h' : IntsZ w lo' hi' v' m) :
    Calls Try.prog 89 #[v, v'] w fun e w' => e = .returned (.bool (decide (l = m))) ∧ ∃ n, w' = w.drewN n := by
  obtain ⟨ao, c, rfl, hl, h3⟩ := h
  obtain ⟨ao', c', rfl, hm, h3'⟩ := h'
  have H := Lib.hid h3
  have H' := Lib.hid h3'
  clear h3 h3'
  by_cases hlen : l.length = m.length
  · have HL := Lib.hid hlen
    have hlm : (l.length : Int) ≤ m.length := by omega
    have hml : (m.length : Int) ≤ l.length := by omega
    have hne : ((l.length : Int) != m.length) = false := by simp [hlen]
    clear hlen
    go_enter Try.func89, Try.ntmps89
    go_wp2
    go_loopw [5] (fun i wr => ∃ k : Nat, k ≤ l.length ∧ i = .int .i64 k ∧ Hid (l.take k = m.take k) ∧ ∃ n, wr = w.drewN n) (fun i _ => l.length - (intOf i).toNat)
    case atStart => exact ⟨0, Nat.zero_le _, rfl, Lib.hid (by simp), 0, rfl⟩
    case round =>
      obtain ⟨k, hk, rfl, ht, n, rfl⟩ := hrel
      by_cases hlt : k < l.length
      · obtain ⟨x, hx⟩ := lt_get hlt
        obtain ⟨y, hy⟩ := lt_get (l := m) (i := k) (by omega)
        obtain ⟨b, off, rfl, _, _, c1⟩ := H.out k x hx
        obtain ⟨b', off', rfl, _, _, c2⟩ := H'.out k y hy
        have HX := Lib.hid hx
        have HY := Lib.hid hy
        clear hx hy
        have b0 : (0 : Int) ≤ k := by omega
        have b1 : (k : Int) < l.length := by omega
        have b2 : (k : Int) < m.length := by omega
        by_cases hxy : x = y
        · have R : Hid (l.take (k + 1) = m.take (k + 1)) := Lib.hid (by
            rw [List.take_add_one, List.take_add_one, ht.out, HX.out, HY.out, hxy])
          subst hxy
          go_wp2
          go_quiet (fail)
          go_wp2
          go_roundw
          case rel => exact ⟨k + 1, by omega, by go_num, R, _, rfl⟩
          case measure => simp [intOf]; omega
        · have R : Hid (decide (l = m) = false) := Lib.hid (by
            rw [decide_eq_false_iff_not]
            intro e
            have h1 := HX.out
            rw [e, HY.out] at h1
            injection h1 with h1
            exact hxy h1.symm)
          have hxy' : (x != y) = true := by simpa using hxy
          go_wp2
          go_quiet (fail)
          go_wp2
          go_ret
          exact ⟨ret_bool R.out.symm, _, World.drewN_drewN _ _ _⟩
      · have R : Hid (decide (l = m) = true) := Lib.hid (by
          have h1 := ht.out
          rw [List.take_of_length_le (by omega), List.take_of_length_le (by have := HL.out; omega)] at h1
          simpa using h1)
        go_wp2
        go_ret
        exact ⟨ret_bool R.out.symm, _, rfl⟩
  · have R : Hid (decide (l = m) = false) := Lib.hid (by rw [decide_eq_false_iff_not]; intro e; exact hlen (by rw [e]))
    have hne : ((l.length : Int) != m.length) = true := by simp; omega
    have hne2 : ¬ (l.length : Int) = m.length := by omega
    clear hlen
    go_enter Try.func89, Try.ntmps89
    go_wp2
    go_ret
    exact ⟨ret_bool R.out.symm, 0, rfl⟩
theorem nodes_take {f g : List Nz} {k : Nat} (h : f.take k = g.take k) {x y : Nz} (hx : f[k]? = some x) (hy : g[k]? = some y) (e1 : x.1 = y.1) (e2 : x.2 = y.2) : f.take (k + 1) = g.take (k + 1) := by
  rw [List.take_add_one, List.take_add_one, h, hx, hy, Prod.ext e1 e2]
set_option maxRecDepth 100000 in
set_option maxHeartbeats 2000000 in
theorem l3Same_calls (v v' : Value) (f g : List Nz) (w : World) (lo hi lo' hi' : Nat) (hh : hi ≤ w.heap.size) (hh' : hi' ≤ w.heap.size) (h : NodesZ w lo hi v f) (h' : NodesZ w lo' hi' v' g) :
    Calls Try.prog 56 #[.agg #[v], .agg #[v']] w fun e w' => e = .returned (.bool (decide (f = g))) ∧ Below w.heap.size w w' := by
  have HB0 := Lib.hid fun o o' => show Below w.heap.size w ((w.alloc o).alloc o') from ((Below.refl _ _).alloc (Nat.le_refl _) _).alloc (by simp) _
  have H := Lib.hid h
  have H' := Lib.hid h'
  obtain ⟨ao, c, rfl, hl, _⟩ := h
  obtain ⟨ao', c', rfl, hm, _⟩ := h'
  by_cases hlen : f.length = g.length
  · have HL := Lib.hid hlen
    have hlm : (f.length : Int) ≤ g.length := by omega
    have hml : (g.length : Int) ≤ f.length := by omega
    have hne : ((f.length : Int) != g.length) = false := by simp [hlen]
    clear hlen
    go_enter Try.func56, Try.ntmps56
    go_wp2
    have HB := HB0.out (.cells #[.slice ao f.length c] 28) (.cells #[.slice ao' g.length c'] 28)
    have d1 : ((w.alloc (.cells #[.slice ao f.length c] 28)).alloc (.cells #[.slice ao' g.length c'] 28)).cell? ⟨w.heap.size, 0, none⟩ = some (.slice ao f.length c) := by go_simp
    have d2 : ((w.alloc (.cells #[.slice ao f.length c] 28)).alloc (.cells #[.slice ao' g.length c'] 28)).cell? ⟨w.heap.size + 1, 0, none⟩ = some (.slice ao' g.length c') := by go_simp
    generalize (w.alloc (.cells #[.slice ao f.length c] 28)).alloc (.cells #[.slice ao' g.length c'] 28) = W at HB d1 d2 ⊢
    have HW := Lib.hid (H.out.below HB hh)
    have HW' := Lib.hid (H'.out.below HB hh')
    have hWz := HB.size
    have hWb0 := block_of_cell d1
    have hWb1 := block_of_cell d2
    have HBB := Lib.hid HB
    clear HB H H'
    go_loopw [5] (fun i wr => ∃ k : Nat, k ≤ f.length ∧ i = .int .i64 k ∧ Hid (f.take k = g.take k) ∧ Hid (Below W.heap.size W wr)) (fun i _ => f.length - (intOf i).toNat)
    case atStart => exact ⟨0, Nat.zero_le _, rfl, Lib.hid (by simp), Lib.hid (Below.refl _ _)⟩
    case round =>
      obtain ⟨k, hk, rfl, ht, hb⟩ := hrel
      have k1 := (bcell hb.out _ 0 hWb0).trans d1
      have k2 := (bcell hb.out _ 0 hWb1).trans d2
      by_cases hlt : k < f.length
      · obtain ⟨x, hx⟩ := lt_get hlt
        obtain ⟨y, hy⟩ := lt_get (l := g) (i := k) (by omega)
        obtain ⟨ao1, c1, e1, _, hn⟩ := HW.out.below hb.out (by omega)
        obtain ⟨b, off, v1, v2, rfl, _, _, p1, p2, i1, i2⟩ := hn k x hx
        injection e1 with e1 q1 q2
        obtain rfl := e1
        clear q1 q2 hn
        obtain ⟨ao2, c2, e2, _, hn2⟩ := HW'.out.below hb.out (by omega)
        obtain ⟨b', off', v1', v2', rfl, _, _, p1', p2', i1', i2'⟩ := hn2 k y hy
        injection e2 with e2 q1 q2
        obtain rfl := e2
        clear q1 q2 hn2
        have C1 := Lib.hid fun m => l1Same_calls v1 v1' x.1 y.1 (wr.drewN m) lo hi lo' hi' i1 i1'
        have C2 := Lib.hid fun m => l1Same_calls v2 v2' x.2 y.2 (wr.drewN m) lo hi lo' hi' i2 i2'
        have HX := Lib.hid hx
        have HY := Lib.hid hy
        clear hx hy i1 i2 i1' i2' d1 d2
        have b0 : (0 : Int) ≤ k := by omega
        have b1 : (k : Int) < f.length := by omega
        have b2 : (k : Int) < g.length := by omega
        by_cases e1 : x.1 = y.1
        · have E1 : decide (x.1 = y.1) = true := by simpa using e1
          rw [E1] at C1
          have HE1 := Lib.hid e1
          clear e1 E1
          by_cases e2 : x.2 = y.2
          · have E2 : decide (x.2 = y.2) = true := by simpa using e2
            rw [E2] at C2
            have R : Hid (f.take (k + 1) = g.take (k + 1)) := Lib.hid (nodes_take ht.out HX.out HY.out HE1.out e2)
            clear e2 E2
            go_wp2
            go_quiet ((go_at_call 89; first | (with_reducible exact Calls.quiet_of (C1.out _)) | (with_reducible exact Calls.quiet_of (C2.out _))))
            go_wp2
            go_roundw
            case rel => exact ⟨k + 1, by omega, by go_num, R, Lib.hid (below_drewN hb.out _)⟩
            case measure => simp [intOf]; omega
          · have E2 : decide (x.2 = y.2) = false := by simpa using e2
            rw [E2] at C2
            have R : Hid (decide (f = g) = false) := Lib.hid (by
              rw [decide_eq_false_iff_not]
              intro e
              have h1 := HX.out
              rw [e, HY.out] at h1
              injection h1 with h1
              exact e2 (by rw [h1]))
            clear e2 E2
            go_wp2
            go_quiet ((go_at_call 89; first | (with_reducible exact Calls.quiet_of (C1.out _)) | (with_reducible exact Calls.quiet_of (C2.out _))))
            go_wp2
            go_ret
            exact ⟨ret_bool R.out.symm, HBB.out.trans ((below_drewN hb.out _).mono hWz)⟩
        · have E1 : decide (x.1 = y.1) = false := by simpa using e1
          rw [E1] at C1
          have R : Hid (decide (f = g) = false) := Lib.hid (by
            rw [decide_eq_false_iff_not]
            intro e
            have h1 := HX.out
            rw [e, HY.out] at h1
            injection h1 with h1
            exact e1 (by rw [h1]))
          clear e1 E1
          go_wp2
          go_quiet ((go_at_call 89; first | (with_reducible exact Calls.quiet_of (C1.out _)) | (with_reducible exact Calls.quiet_of (C2.out _))))
          go_wp2
          go_ret
          exact ⟨ret_bool R.out.symm, HBB.out.trans ((below_drewN hb.out _).mono hWz)⟩
      · have R : Hid (decide (f = g) = true) := Lib.hid (by
          have h1 := ht.out
          rw [List.take_of_length_le (by omega), List.take_of_length_le (by have := HL.out; omega)] at h1
          simpa using h1)
        clear d1 d2
        go_wp2
        go_ret
        exact ⟨ret_bool R.out.symm, HBB.out.trans (hb.out.mono hWz)⟩
  · have R : Hid (decide (f = g) = false) := Lib.hid (by rw [decide_eq_false_iff_not]; intro e; exact hlen (by rw [e]))
    have hne : ((f.length : Int) != g.length) = true := by simp; omega
    have hne2 : ¬ (f.length : Int) = g.length := by omega
    clear hlen H H'
    go_enter Try.func56, Try.ntmps56
    go_wp2
    go_ret
    exact ⟨ret_bool R.out.symm, HB0.out _ _⟩

end Go.Proofs.Ytabfdaofikccmaa
