/- Which options are good: rising, and within bounds. -/
import Derived.Test.YtabfdaofikccmaaFmBase
import Derived.IntWalk
namespace Go.Proofs.Ytabfdaofikccmaa
set_option linter.unusedVariables false
set_option linter.unusedSimpArgs false
open Go.RowKit
/-- rising, from lo to hi -/
def risesB : List Int → Int → Int → Bool
  | [], _, _ => true
  | x :: l, lo, hi => decide (lo ≤ x) && decide (x ≤ hi) && risesB l (x + 1) hi
theorem risesB_iff (l : List Int) (lo hi : Int) : risesB l lo hi = true ↔ RisesIn l lo hi := by
  induction l generalizing lo with
  | nil => simp [risesB, RisesIn]
  | cons x l ih =>
    unfold risesB
    simp only [Bool.and_eq_true, decide_eq_true_eq, ih]
    unfold RisesIn
    rw [List.pairwise_cons]
    constructor
    · rintro ⟨⟨h1, h2⟩, h3, h4⟩
      refine ⟨⟨fun y hy => ?_, h3⟩, fun y hy => ?_⟩
      · have := h4 y hy; omega
      · rcases List.mem_cons.1 hy with rfl | hy
        · omega
        · have := h4 y hy; omega
    · rintro ⟨⟨h1, h2⟩, h3⟩
      refine ⟨⟨(h3 x (List.mem_cons_self ..)).1, (h3 x (List.mem_cons_self ..)).2⟩, h2, fun y hy => ?_⟩
      have := h1 y hy
      have := h3 y (List.mem_cons_of_mem _ hy)
      omega
theorem risesB_step (l : List Int) (k : Nat) (x m hi : Int) (h : l[k]? = some x) : risesB (l.drop k) m hi = (decide (m ≤ x) && decide (x ≤ hi) && risesB (l.drop (k + 1)) (x + 1) hi) := by
  have hk := get_lt h
  rw [List.drop_eq_getElem_cons hk]
  rw [List.getElem?_eq_getElem hk] at h
  injection h with h
  rw [h]
  rfl
def optsB (l : List Int) (n : Int) : Bool := decide (l.length ≤ 24) && risesB l 0 (n - 1)
set_option maxHeartbeats 1000000 in
theorem goodOptions_calls (v : Value) (l : List Int) (n : Int) (w : World) (lo hi : Nat) (h : IntsZ w lo hi v l) (hn : n ≤ 1000000) :
    Calls Try.prog 78 #[v, .int .i64 n] w fun e w' => e = .returned (.bool (optsB l n)) ∧ w = w' := by
  obtain ⟨ao, c, rfl, hl, h3⟩ := h
  have H := Lib.hid h3
  clear h3
  by_cases hlen : l.length ≤ 24
  · have HR : Hid (optsB l n = risesB l 0 (n - 1)) := Lib.hid (by unfold optsB; simp [hlen])
    have hlen' : ¬ (24 : Int) < l.length := by omega
    go_enter Try.func78, Try.ntmps78
    go_wp2
    go_loop [5, 13] (fun m i => ∃ (k : Nat) (q : Int), k ≤ l.length ∧ i = .int .i64 k ∧ m = .int .i64 q ∧ 0 ≤ q ∧ q ≤ 1000001 ∧ Hid (risesB l 0 (n - 1) = risesB (l.drop k) q (n - 1))) (fun _ i => l.length - (intOf i).toNat)
    case atStart => exact ⟨0, 0, Nat.zero_le _, rfl, rfl, by omega, by omega, Lib.hid rfl⟩
    case round =>
      obtain ⟨k, q, hk, rfl, rfl, hq0, hq1, hr⟩ := hrel
      by_cases hlt : k < l.length
      · obtain ⟨x, hx⟩ := lt_get hlt
        obtain ⟨b, off, rfl, _, _, c1⟩ := H.out k x hx
        have HS := Lib.hid (risesB_step l k x q (n - 1) hx)
        clear hx
        have b0 : (0 : Int) ≤ k := by omega
        have b1 : (k : Int) < l.length := by omega
        by_cases h1 : x < q
        · have R : Hid (optsB l n = false) := Lib.hid (by
            rw [HR.out, hr.out, HS.out, decide_eq_false (by omega)]
            rfl)
          go_wp2
          go_ret
          exact ⟨ret_bool R.out.symm, rfl⟩
        · by_cases h2 : n ≤ x
          · have R : Hid (optsB l n = false) := Lib.hid (by
              rw [HR.out, hr.out, HS.out, decide_eq_false (show ¬ x ≤ n - 1 by omega)]
              simp)
            go_wp2
            go_ret
            exact ⟨ret_bool R.out.symm, rfl⟩
          · have R : Hid (risesB l 0 (n - 1) = risesB (l.drop (k + 1)) (x + 1) (n - 1)) := Lib.hid (by
              rw [hr.out, HS.out, decide_eq_true (show q ≤ x by omega), decide_eq_true (show x ≤ n - 1 by omega)]
              simp)
            have x0 : 0 ≤ x := by omega
            have x1 : x ≤ 1000000 := by omega
            go_wp2
            go_round
            case rel => exact ⟨k + 1, x + 1, by omega, by go_num, rfl, by omega, by omega, R⟩
            case measure => simp [intOf]; omega
      · have R : Hid (optsB l n = true) := Lib.hid (by
          rw [HR.out, hr.out, show l.drop k = [] from List.drop_eq_nil_of_le (by omega)]
          rfl)
        go_wp2
        go_ret
        exact ⟨ret_bool R.out.symm, rfl⟩
  · have HR : Hid (optsB l n = false) := Lib.hid (by unfold optsB; simp [hlen])
    have hlen' : (24 : Int) < l.length := by omega
    go_enter Try.func78, Try.ntmps78
    go_wp2
    go_ret
    exact ⟨ret_bool HR.out.symm, rfl⟩
theorem l1In_yes (x a b : Int) (w : World) (h1 : a ≤ x) (h2 : x ≤ b) : Calls Try.prog 94 #[.int .i64 x, .int .i64 a, .int .i64 b] w fun e w' => e = .returned (.bool true) ∧ w' = w := by
  go_enter Try.func94, Try.ntmps94
  go_wp2
  go_ret
  exact ⟨rfl, rfl⟩
theorem l1In_no (x a b : Int) (w : World) (h : x < a ∨ b < x) : Calls Try.prog 94 #[.int .i64 x, .int .i64 a, .int .i64 b] w fun e w' => e = .returned (.bool false) ∧ w' = w := by
  by_cases h1 : x < a
  · clear h
    go_enter Try.func94, Try.ntmps94
    go_wp2
    go_ret
    exact ⟨rfl, rfl⟩
  · have h2 : b < x := by omega
    have h3 : ¬ x ≤ b := by omega
    have h4 : decide (x ≤ b) = false := by simpa using h3
    have h5 : a ≤ x := by omega
    clear h h3
    go_enter Try.func94, Try.ntmps94
    go_wp2
    go_ret
    exact ⟨rfl, rfl⟩
set_option maxHeartbeats 1000000 in
theorem l1Rising_calls (v : Value) (l : List Int) (p n : Int) (w : World) (lo hi : Nat) (h : IntsZ w lo hi v l) (hp : -1000000 ≤ p) (hn : n ≤ 1000000) :
    Calls Try.prog 74 #[v, .int .i64 p, .int .i64 n] w fun e w' => e = .returned (.bool (risesB l p n)) ∧ ∃ m, w' = w.drewN m := by
  obtain ⟨ao, c, rfl, hl, h3⟩ := h
  have H := Lib.hid h3
  clear h3
  go_enter Try.func74, Try.ntmps74
  go_wp2
  go_loopw [7] (fun i wr => ∃ (k : Nat) (q : Int), k ≤ l.length ∧ i = .int .i64 k ∧ p ≤ q ∧ (k = 0 → q = p) ∧ Hid (0 < k → ∃ y, l[k - 1]? = some y ∧ q = y + 1) ∧ Hid (risesB l p n = risesB (l.drop k) q n) ∧ Hid (∃ m, wr = w.drewN m)) (fun i _ => l.length - (intOf i).toNat)
  case atStart => exact ⟨0, p, Nat.zero_le _, rfl, by omega, fun _ => rfl, Lib.hid (fun h => by omega), Lib.hid rfl, Lib.hid ⟨0, rfl⟩⟩
  case round =>
    obtain ⟨k, q, hk, rfl, hpq, hq0, hy, hr, hm⟩ := hrel
    have H : Hid (∀ (j : Nat) (x : Int), l[j]? = some x → ∃ b off, ao = some ⟨b, off, none⟩ ∧ lo ≤ b ∧ b < hi ∧ wr.cell? ⟨b, off + j, none⟩ = some (.int .i64 x)) := Lib.hid (fun j x hx => by
      obtain ⟨b, off, e, h1, h2, hc⟩ := H.out j x hx
      obtain ⟨m, e2⟩ := hm.out
      exact ⟨b, off, e, h1, h2, by rw [e2]; exact hc⟩)
    have HD : Hid (∀ q, ∃ m, wr.drewN q = w.drewN m) := Lib.hid (fun q => by
      obtain ⟨m, e2⟩ := hm.out
      exact ⟨m + q, by rw [e2, World.drewN_drewN]⟩)
    clear hm
    by_cases hlt : k < l.length
    · obtain ⟨x, hx⟩ := lt_get hlt
      obtain ⟨b, off, rfl, _, _, c1⟩ := H.out k x hx
      have HS := Lib.hid (risesB_step l k x q n hx)
      have HX := Lib.hid hx
      clear hx
      have b0 : (0 : Int) ≤ k := by omega
      have b1 : (k : Int) < l.length := by omega
      by_cases hin : p ≤ x ∧ x ≤ n
      · have C := Lib.hid fun m => l1In_yes x p n (wr.drewN m) hin.1 hin.2
        by_cases hk0 : k = 0
        · have hqp := hq0 hk0
          have kp : ¬ (0 : Int) < k := by omega
          have kn : decide (0 < k) = false := by rw [decide_eq_false_iff_not]; omega
          have ki : decide ((0 : Int) < (k : Int)) = false := by rw [decide_eq_false_iff_not]; omega
          have kz : ¬ 0 < k := by omega
          have R : Hid (risesB l p n = risesB (l.drop (k + 1)) (x + 1) n) := Lib.hid (by
            rw [hr.out, HS.out, decide_eq_true (show q ≤ x by omega), decide_eq_true hin.2]
            simp)
          obtain ⟨i1, i2⟩ := hin
          clear hqp hq0 hy hr HS hk0
          go_wp2
          go_quiet ((go_at_call 94; exact Calls.quiet_of_same (C.out _)))
          go_wp2
          go_roundw
          case rel => exact ⟨k + 1, x + 1, by omega, by go_num, by omega, fun h => by omega, Lib.hid (fun _ => ⟨x, by rw [show k + 1 - 1 = k from by omega]; exact HX.out, rfl⟩), R, Lib.hid (HD.out _)⟩
          case measure => simp [intOf]; omega
        · obtain ⟨y, hyy, hqy⟩ := hy.out (by omega)
          obtain ⟨b', off', e', _, _, c2⟩ := H.out (k - 1) y hyy
          injection e' with e'
          injection e' with e1 e2
          subst e1 e2
          clear hyy hq0 hy
          have kk : ((k : Int) - 1) = ((k - 1 : Nat) : Int) := by omega
          have k1 : (0 : Int) ≤ (k : Int) - 1 := by omega
          have k2 : (k : Int) - 1 < l.length := by omega
          have k3 : ((k : Int) - 1).toNat = k - 1 := by omega
          have kp : (0 : Int) < k := by omega
          have kn : decide (0 < k) = true := by rw [decide_eq_true_iff]; omega
          have kz : 0 < k := by omega
          have kw : IntKind.i64.wrap ((k : Int) - 1) = (k : Int) - 1 := IntWalk.i64_in _ (by omega)
          by_cases hxy : y < x
          · have R : Hid (risesB l p n = risesB (l.drop (k + 1)) (x + 1) n) := Lib.hid (by
              rw [hr.out, HS.out, decide_eq_true (show q ≤ x by omega), decide_eq_true hin.2]
              simp)
            obtain ⟨i1, i2⟩ := hin
            have HQ := Lib.hid hqy
            have HKK := Lib.hid kk
            clear hqy hr HS kk hk0
            go_wp2
            go_quiet ((go_at_call 94; exact Calls.quiet_of_same (C.out _)))
            go_wp2
            go_roundw
            case rel => exact ⟨k + 1, x + 1, by omega, by go_num, by omega, fun h => by omega, Lib.hid (fun _ => ⟨x, by rw [show k + 1 - 1 = k from by omega]; exact HX.out, rfl⟩), R, Lib.hid (HD.out _)⟩
            case measure => simp [intOf]; omega
          · have R : Hid (risesB l p n = false) := Lib.hid (by
              rw [hr.out, HS.out, decide_eq_false (show ¬ q ≤ x by omega)]
              simp)
            obtain ⟨i1, i2⟩ := hin
            have HQ := Lib.hid hqy
            have HKK := Lib.hid kk
            clear hqy hr HS kk hk0
            go_wp2
            go_quiet ((go_at_call 94; exact Calls.quiet_of_same (C.out _)))
            go_wp2
            go_ret
            exact ⟨ret_bool R.out.symm, HD.out _⟩
      · have C := Lib.hid fun m => l1In_no x p n (wr.drewN m) (by omega)
        have R : Hid (risesB l p n = false) := Lib.hid (by
          rw [hr.out, HS.out]
          by_cases h1 : x ≤ n
          · rw [decide_eq_false (show ¬ q ≤ x by omega)]; simp
          · rw [decide_eq_false h1]; simp)
        clear hin hq0 hy hr HS
        go_wp2
        go_quiet ((go_at_call 94; exact Calls.quiet_of_same (C.out _)))
        go_wp2
        go_ret
        exact ⟨ret_bool R.out.symm, HD.out _⟩
    · have R : Hid (risesB l p n = true) := Lib.hid (by
        rw [hr.out, show l.drop k = [] from List.drop_eq_nil_of_le (by omega)]
        rfl)
      clear hq0 hy hr
      go_wp2
      go_ret
      exact ⟨ret_bool R.out.symm, HD.out 0⟩

end Go.Proofs.Ytabfdaofikccmaa
