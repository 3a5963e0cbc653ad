/- Lists of numbers compared, and nodes: what impl's order of options is. -/
import Derived.Test.YtabfdaofikccmaaFmBase
import Derived.StillTailTactics
import Derived.Deep.RegionHeld3
namespace Go.Proofs.Ytabfdaofikccmaa
open Go.RowKit
/-- two numbers compared -/
def cmpI (x y : Int) : Int := if x < y then -1 else if y < x then 1 else 0
/-- two lists compared -/
def cmpL : List Int → List Int → Int
  | [], [] => 0
  | [], _ :: _ => -1
  | _ :: _, [] => 1
  | x :: a, y :: b => if x = y then cmpL a b else cmpI x y
/-- the first that isn't 0 -/
def orI (a b : Int) : Int := if a = 0 then b else a
def cmpNd (a b : Nz) : Int := orI (cmpL a.1 b.1) (cmpL a.2 b.2)
theorem cmpI_eq (x y : Int) : cmpI x y = 0 ↔ x = y := by unfold cmpI; split <;> (try split) <;> omega
theorem cmpL_eq : ∀ a b : List Int, cmpL a b = 0 ↔ a = b
  | [], [] => by simp [cmpL]
  | [], _ :: _ => by simp [cmpL]
  | _ :: _, [] => by simp [cmpL]
  | x :: a, y :: b => by
    unfold cmpL
    split
    · rename_i h
      subst h
      rw [cmpL_eq a b]
      simp
    · rename_i h
      rw [cmpI_eq]
      simp [h]
theorem cmpNd_eq (a b : Nz) : cmpNd a b = 0 ↔ a = b := by
  obtain ⟨a1, a2⟩ := a
  obtain ⟨b1, b2⟩ := b
  unfold cmpNd orI
  simp only [Prod.mk.injEq]
  split
  · rename_i h
    rw [cmpL_eq]
    rw [cmpL_eq] at h
    simp [h]
  · rename_i h
    rw [cmpL_eq] at h
    constructor
    · intro h2
      exact absurd ((cmpL_eq a1 b1).1 h2) h
    · rintro ⟨h1, _⟩
      exact absurd h1 h
theorem cmp_calls (x y : Int) (w : World) : Calls Try.prog 100 #[.int .i64 x, .int .i64 y] w fun e w' => e = .returned (.int .i64 (cmpI x y)) ∧ w = w' := by
  by_cases h1 : x < y
  · have HR : Hid (cmpI x y = -1) := Lib.hid (by unfold cmpI; rw [if_pos h1])
    go_enter Try.func100, Try.ntmps100
    go_wp2_with (go_at_call 109; go_in)
    go_ret
    exact ⟨ret_int HR.out.symm, rfl⟩
  · by_cases h2 : y < x
    · have HR : Hid (cmpI x y = 1) := Lib.hid (by unfold cmpI; rw [if_neg h1, if_pos h2])
      go_enter Try.func100, Try.ntmps100
      go_wp2_with (go_at_call 109; go_in)
      go_ret
      exact ⟨ret_int HR.out.symm, rfl⟩
    · have HR : Hid (cmpI x y = 0) := Lib.hid (by unfold cmpI; rw [if_neg h1, if_neg h2])
      go_enter Try.func100, Try.ntmps100
      go_wp2_with (go_at_call 109; go_in)
      go_ret
      exact ⟨ret_int HR.out.symm, rfl⟩
/-- ... with a name for its result -/
theorem cmp_calls' (x y r : Int) (hr : Hid (cmpI x y = r)) (w : World) : Calls Try.prog 100 #[.int .i64 x, .int .i64 y] w fun e w' => e = .returned (.int .i64 r) ∧ w = w' := by
  have := cmp_calls x y w
  rw [hr.out] at this
  exact this
theorem or_calls (a b : Int) (g c : Nat) (w : World) (h0 : w.cell? ⟨g, 0, none⟩ = some (.int .i64 a)) (h1 : w.cell? ⟨g, 1, none⟩ = some (.int .i64 b)) :
    Calls Try.prog 90 #[.slice (some ⟨g, 0, none⟩) 2 c] w fun e w' => e = .returned (.int .i64 (orI a b)) ∧ w = w' := by
  by_cases ha : a = 0
  · subst ha
    have HR : Hid (orI 0 b = b) := Lib.hid rfl
    by_cases hb : b = 0
    · subst hb
      go_enter Try.func90, Try.ntmps90
      go_wp2
      refine wp_loop_rounds 3 ?_
      rw [rounds_succ]
      go_wp2
      rw [rounds_succ]
      go_wp2
      rw [rounds_succ]
      go_wp2
      go_ret
      exact ⟨ret_int HR.out.symm, rfl⟩
    · have hb' : (b == 0) = false := by simpa using hb
      go_enter Try.func90, Try.ntmps90
      go_wp2
      refine wp_loop_rounds 2 ?_
      rw [rounds_succ]
      go_wp2
      rw [rounds_succ]
      go_wp2
      go_ret
      exact ⟨ret_int HR.out.symm, rfl⟩
  · have HR : Hid (orI a b = a) := Lib.hid (by unfold orI; rw [if_neg ha])
    have ha' : (a == 0) = false := by simpa using ha
    go_enter Try.func90, Try.ntmps90
    go_wp2
    refine wp_loop_rounds 1 ?_
    rw [rounds_succ]
    go_wp2
    go_ret
    exact ⟨ret_int HR.out.symm, rfl⟩
/-- the comparing of what is left, when so many are alike -/
theorem cmpL_drop (l m : List Int) (k : Nat) (h1 : k < l.length) (h2 : k < m.length) : cmpL (l.drop k) (m.drop k) = if l[k] = m[k] then cmpL (l.drop (k + 1)) (m.drop (k + 1)) else cmpI l[k] m[k] := by
  rw [List.drop_eq_getElem_cons h1, List.drop_eq_getElem_cons h2]
  rfl
set_option maxHeartbeats 1000000 in
theorem compare_calls (v v' : Value) (l m : List Int) (w : World) (lo hi lo' hi' : Nat) (h : IntsZ w lo hi v l) (h' : IntsZ w lo' hi' v' m) :
    Calls Try.prog 91 #[v, v'] w fun e w' => e = .returned (.int .i64 (cmpL l m)) ∧ w = w' := by
  obtain ⟨ao, c, rfl, hl, h3⟩ := h
  obtain ⟨ao', c', rfl, hm, h3'⟩ := h'
  have H := Lib.hid h3
  have H' := Lib.hid h3'
  clear h3 h3'
  go_enter Try.func91, Try.ntmps91
  go_wp2
  go_loop [11] (fun i => ∃ k : Nat, k ≤ l.length ∧ k ≤ m.length ∧ i = .int .i64 k ∧ Hid (cmpL (l.drop k) (m.drop k) = cmpL l m)) (fun i => l.length - (intOf i).toNat)
  case atStart => exact ⟨0, Nat.zero_le _, Nat.zero_le _, rfl, Lib.hid rfl⟩
  case round =>
    obtain ⟨k, hk, hk', rfl, hc⟩ := hrel
    by_cases hlt : k < l.length
    · have b0 : (0 : Int) ≤ k := by omega
      have b1 : (k : Int) < l.length := by omega
      obtain ⟨x, hx⟩ := lt_get hlt
      obtain ⟨b, off, rfl, _, _, c1⟩ := H.out k x hx
      by_cases hlt' : k < m.length
      · obtain ⟨y, hy⟩ := lt_get hlt'
        obtain ⟨b', off', rfl, _, _, c2⟩ := H'.out k y hy
        have b2 : (k : Int) < m.length := by omega
        have HD : Hid (cmpL l m = if x = y then cmpL (l.drop (k + 1)) (m.drop (k + 1)) else cmpI x y) := Lib.hid (by
          rw [← hc.out, cmpL_drop l m k hlt hlt']
          rw [List.getElem?_eq_getElem hlt] at hx
          rw [List.getElem?_eq_getElem hlt'] at hy
          injection hx with hx
          injection hy with hy
          rw [hx, hy])
        clear hx hy hc
        have HE := Lib.hid (cmpI_eq x y)
        obtain ⟨r, hr⟩ : ∃ r, cmpI x y = r := ⟨_, rfl⟩
        have C := Lib.hid (cmp_calls' x y r (Lib.hid hr))
        have HR := Lib.hid hr
        clear hr
        by_cases hz : r = 0
        · have hxy : Hid (x = y) := Lib.hid (HE.out.1 (by rw [HR.out]; exact hz))
          subst hz
          go_wp2_with ((with_reducible refine (C.out _).mono ?_); rintro e w' ⟨rfl, rfl⟩)
          go_round
          case rel => exact ⟨k + 1, by omega, by omega, by go_num, Lib.hid (by rw [HD.out, if_pos hxy.out])⟩
          case measure => simp [intOf]; omega
        · have hr' : (r == 0) = false := by simpa using hz
          have hxy : Hid (cmpL l m = r) := Lib.hid (by rw [HD.out, if_neg (fun e => hz (by rw [← HR.out]; exact HE.out.2 e))]; exact HR.out)
          go_wp2_with ((with_reducible refine (C.out _).mono ?_); rintro e w' ⟨rfl, rfl⟩)
          go_ret
          exact ⟨ret_int hxy.out.symm, rfl⟩
      · have HR : Hid (cmpL l m = 1) := Lib.hid (by
          rw [← hc.out, List.drop_eq_getElem_cons hlt, show m.drop k = [] from List.drop_eq_nil_of_le (by omega)]
          rfl)
        have b2 : (m.length : Int) ≤ k := by omega
        clear hc hx
        go_wp2
        go_ret
        exact ⟨ret_int HR.out.symm, rfl⟩
    · have b1 : ¬ (k : Int) < l.length := by omega
      by_cases hmm : l.length < m.length
      · have HR : Hid (cmpL l m = -1) := Lib.hid (by
          rw [← hc.out, show l.drop k = [] from List.drop_eq_nil_of_le (by omega), List.drop_eq_getElem_cons (show k < m.length by omega)]
          rfl)
        clear hc
        go_wp2
        go_ret
        exact ⟨ret_int HR.out.symm, rfl⟩
      · have HR : Hid (cmpL l m = 0) := Lib.hid (by
          rw [← hc.out, show l.drop k = [] from List.drop_eq_nil_of_le (by omega), show m.drop k = [] from List.drop_eq_nil_of_le (by omega)]
          rfl)
        clear hc
        go_wp2
        go_ret
        exact ⟨ret_int HR.out.symm, rfl⟩
theorem compare_calls' (v v' : Value) (l m : List Int) (r : Int) (hr : Hid (cmpL l m = r)) (w : World) (lo hi lo' hi' : Nat) (h : IntsZ w lo hi v l) (h' : IntsZ w lo' hi' v' m) :
    Calls Try.prog 91 #[v, v'] w fun e w' => e = .returned (.int .i64 r) ∧ w = w' := by
  have := compare_calls v v' l m w lo hi lo' hi' h h'
  rw [hr.out] at this
  exact this
set_option maxRecDepth 100000 in
set_option maxHeartbeats 1000000 in
theorem cmpOpts_calls (v1 v2 v1' v2' : Value) (a b : Nz) (w : World) (lo hi lo' hi' : Nat) (hh : hi ≤ w.heap.size) (hh' : hi' ≤ w.heap.size)
    (h1 : IntsZ w lo hi v1 a.1) (h2 : IntsZ w lo hi v2 a.2) (h1' : IntsZ w lo' hi' v1' b.1) (h2' : IntsZ w lo' hi' v2' b.2) :
    Calls Try.prog 59 #[.agg #[v1, v2], .agg #[v1', v2']] w fun e w' => e = .returned (.int .i64 (cmpNd a b)) ∧ Below w.heap.size w w' := by
  have HB0 := Lib.hid fun o o' => show Below w.heap.size w ((w.alloc o).alloc o') from ((Below.refl _ _).alloc (Nat.le_refl _) _).alloc (by simp) _
  obtain ⟨r1, hr1⟩ : ∃ r, cmpL a.1 b.1 = r := ⟨_, rfl⟩
  obtain ⟨r2, hr2⟩ : ∃ r, cmpL a.2 b.2 = r := ⟨_, rfl⟩
  have HR : Hid (cmpNd a b = orI r1 r2) := Lib.hid (by unfold cmpNd; rw [hr1, hr2])
  have C1 := Lib.hid fun (W : World) (hW : Below w.heap.size w W) => (compare_calls' v1 v1' a.1 b.1 r1 (Lib.hid hr1) W lo hi lo' hi' (h1.below hW hh) (h1'.below hW hh')).mono fun _ _ h => (⟨h.1, h.2.symm⟩ : _ ∧ _ = W)
  have C2 := Lib.hid fun (W : World) (hW : Below w.heap.size w W) => (compare_calls' v2 v2' a.2 b.2 r2 (Lib.hid hr2) W lo hi lo' hi' (h2.below hW hh) (h2'.below hW hh')).mono fun _ _ h => (⟨h.1, h.2.symm⟩ : _ ∧ _ = W)
  clear h1 h2 h1' h2' hr1 hr2
  go_enter Try.func59, Try.ntmps59
  go_wp2_with fail
  have HB := HB0.out (.cells #[v1, v2] 57) (.cells #[v1', v2'] 57)
  have d1 : ((w.alloc (.cells #[v1, v2] 57)).alloc (.cells #[v1', v2'] 57)).cell? ⟨w.heap.size, 0, none⟩ = some v1 := by go_simp
  have d2 : ((w.alloc (.cells #[v1, v2] 57)).alloc (.cells #[v1', v2'] 57)).cell? ⟨w.heap.size, 1, none⟩ = some v2 := by go_simp
  have d3 : ((w.alloc (.cells #[v1, v2] 57)).alloc (.cells #[v1', v2'] 57)).cell? ⟨w.heap.size + 1, 0, none⟩ = some v1' := by go_simp
  have d4 : ((w.alloc (.cells #[v1, v2] 57)).alloc (.cells #[v1', v2'] 57)).cell? ⟨w.heap.size + 1, 1, none⟩ = some v2' := by go_simp
  have hsz : ((w.alloc (.cells #[v1, v2] 57)).alloc (.cells #[v1', v2'] 57)).heap.size = w.heap.size + 1 + 1 := by simp
  generalize (w.alloc (.cells #[v1, v2] 57)).alloc (.cells #[v1', v2'] 57) = W at HB d1 d2 d3 d4 hsz ⊢
  have HB' : Below w.heap.size w W.drew := below_drewN HB 1
  have HZ := Lib.hid hsz
  clear hsz
  go_still_tail 10, (by kernel_rfl)
  still_call (C1.out _ HB')
  repeat still_step
  still_call (C2.out _ HB')
  repeat still_step
  refine wpStill_nil ?_
  change wpList _ _ _ _ _ W.drew
  generalize W.drew = W2 at HB'
  have HB2 := Lib.hid HB'
  have C3 := Lib.hid fun (W : World) (g c : Nat) => or_calls r1 r2 g c W
  clear HB' HB d1 d2 d3 d4 C1 C2
  go_wp2_with fail
  refine (C3.out _ _ _ ?_ ?_).mono ?_
  · go_simp
  · go_simp
  rintro e w4 ⟨rfl, rfl⟩
  go_wp2_with fail
  go_ret
  exact ⟨ret_int HR.out.symm, HB2.out.alloc HB2.out.size _⟩

end Go.Proofs.Ytabfdaofikccmaa
