/- The simplest number between two, by the reference. -/
import Derived.Test.YtlblkmhiildgeaaDoorDySum
import Derived.Test.YtlblkmhiildgeaaDoorDyBtw
namespace Go.Proofs.YtlblkmhiildgeaaDoor
open Go.RowKit
set_option linter.unusedVariables false

theorem sc_zero : sc 0 0 = 0 := by unfold sc; simp
/-- an order told by the reference, under one name -/
def ltB (A B : Int) : Bool := decide (A < B)
theorem lessB (ta tb : Int) (pa pb : Nat) (w : World) (a1 : -1000000000 ≤ ta) (a2 : ta ≤ 1000000000) (a3 : pa ≤ 24) (b1 : -1000000000 ≤ tb) (b2 : tb ≤ 1000000000) (b3 : pb ≤ 24) (c : Bool) (hc : ltB (sc ta pa) (sc tb pb) = c) :
    Calls Tryd.prog 45 #[.agg #[.int .i64 ta, .int .i64 pa], .agg #[.int .i64 tb, .int .i64 pb]] w fun e w' => e = .returned (.bool c) ∧ Below w.heap.size w w' := by
  rw [← hc]
  exact less_calls ta tb pa pb w a1 a2 a3 b1 b2 b3

set_option maxHeartbeats 2000000 in
theorem btwS_pos (ta tb : Int) (pa pb : Nat) (w : World) (a1 : -1000000 ≤ ta) (a2 : ta ≤ 1000000) (a3 : pa ≤ 16) (b1 : -1000000 ≤ tb) (b2 : tb ≤ 1000000) (b3 : pb ≤ 16) (hA : 0 ≤ sc ta pa) (hAB : sc ta pa < sc tb pb) : Calls Tryd.prog 51 #[.agg #[.int .i64 ta, .int .i64 pa], .agg #[.int .i64 tb, .int .i64 pb]] w fun e w' => e = .returned (.agg #[.int .i64 ((btw (sc ta pa) (sc tb pb)).1), .int .i64 ((btw (sc ta pa) (sc tb pb)).2)]) ∧ Below w.heap.size w w' := by
  have hA2 := (sc_bd (p := pa) a1 a2).2
  have hl0 : lowD (sc ta pa) 0 = ta / 2 ^ pa + 1 := by
    unfold lowD
    rw [← sc_div (by omega : pa ≤ 24)]
  have d1 := ediv_bd (k := pa) a1 a2
  have H1 : ∀ W, Hid (Calls Tryd.prog 45 #[.agg #[.int .i64 tb, .int .i64 pb], .agg #[.int .i64 0, .int .i64 0]] W fun e w' => e = .returned (.bool false) ∧ Below W.heap.size W w') := fun W => Lib.hid (lessB tb 0 pb 0 W (by omega) (by omega) (by omega) (by omega) (by omega) (by omega) false (by rw [sc_zero]; unfold ltB; rw [decide_eq_false_iff_not]; omega))
  have H2 : ∀ W, Hid (Calls Tryd.prog 45 #[.agg #[.int .i64 ta, .int .i64 pa], .agg #[.int .i64 0, .int .i64 0]] W fun e w' => e = .returned (.bool false) ∧ Below W.heap.size W w') := fun W => Lib.hid (lessB ta 0 pa 0 W (by omega) (by omega) (by omega) (by omega) (by omega) (by omega) false (by rw [sc_zero]; unfold ltB; rw [decide_eq_false_iff_not]; omega))
  have H3 : ∀ W, Hid (Calls Tryd.prog 71 #[.agg #[.int .i64 ta, .int .i64 pa]] W fun e w' => e = .returned (.int .i64 (ta / 2 ^ pa)) ∧ Below W.heap.size W w') := fun W => Lib.hid (l2Floor_calls ta pa W (by omega) (by omega) (by omega))
  have H4 : ∀ W c, ltB (sc (ta / 2 ^ pa + 1) 0) (sc tb pb) = c → Hid (Calls Tryd.prog 45 #[.agg #[.int .i64 (ta / 2 ^ pa + 1), .int .i64 0], .agg #[.int .i64 tb, .int .i64 pb]] W fun e w' => e = .returned (.bool c) ∧ Below W.heap.size W w') := fun W c hc => Lib.hid (lessB (ta / 2 ^ pa + 1) tb 0 pb W (by omega) (by omega) (by omega) (by omega) (by omega) (by omega) c hc)
  have H5 : ∀ W, Hid (Calls Tryd.prog 68 #[.agg #[.int .i64 ta, .int .i64 pa]] W fun e w' => e = .returned (.int .i64 (sc ta pa)) ∧ Below W.heap.size W w') := fun W => Lib.hid (scaled_calls ta pa W (by omega) (by omega) (by omega))
  have H6 : ∀ W, Hid (Calls Tryd.prog 68 #[.agg #[.int .i64 tb, .int .i64 pb]] W fun e w' => e = .returned (.int .i64 (sc tb pb)) ∧ Below W.heap.size W w') := fun W => Lib.hid (scaled_calls tb pb W (by omega) (by omega) (by omega))
  have hs0 : sc (ta / 2 ^ pa + 1) 0 = lowD (sc ta pa) 0 * 2 ^ (24 - 0) := by rw [hl0]; rfl
  have htb : tb ≠ 0 := by
    rintro rfl
    have : sc 0 pb = 0 := by unfold sc; simp
    omega
  have htb2 : (tb == 0) = false := by rw [beq_eq_false_iff_ne]; exact htb
  have HS0 := Lib.hid hs0
  have HL0 := Lib.hid hl0
  have hx : IntKind.i64.wrap (ta / 2 ^ pa + 1) = ta / 2 ^ pa + 1 := IntWalk.i64_in _ (by omega)
  clear hl0 hs0 d1 htb a1 a2 a3 b1 b2 b3
  generalize ta / 2 ^ pa = x at H3 H4 HS0 HL0 hx
  generalize sc ta pa = A at *
  generalize sc tb pb = B at *
  generalize hr : btw A B = r
  have HR := Lib.hid hr
  have hAB2 := Lib.hid hAB
  clear hr hAB
  have hP0 := trip_start w (.int .i64 ta) (.int .i64 pa) (.int .i64 tb) (.int .i64 pb) 25
  go_enter Tryd.func51, Tryd.ntmps51
  go_wp2_with fail
  refine ((H1 _).out).mono ?_
  rintro e w1 ⟨rfl, hb⟩
  have hP1 := trip_next hb hP0
  have hQ := hP1
  obtain ⟨c10, c11, c12, c13, c14, c15, c16, c17, c18, HB1⟩ := hQ
  clear hb HB1
  go_wp2_with fail
  refine ((H2 _).out).mono ?_
  rintro e w2 ⟨rfl, hb⟩
  have hP2 := trip_next hb hP1
  have hQ := hP2
  obtain ⟨c20, c21, c22, c23, c24, c25, c26, c27, c28, HB2⟩ := hQ
  clear hb HB2
  go_wp2_with fail
  refine ((H3 _).out).mono ?_
  rintro e w3 ⟨rfl, hb⟩
  have hP3 := trip_next hb hP2
  have hQ := hP3
  obtain ⟨c30, c31, c32, c33, c34, c35, c36, c37, c38, HB3⟩ := hQ
  clear hb HB3
  by_cases hc : ltB (sc (x + 1) 0) B = true
  · have HC := Lib.hid hc
    have hres : r = (x + 1, 0) := by
      unfold ltB at hc
      rw [decide_eq_true_iff, HS0.out, ← le_high] at hc
      have h2 := sbt_yes (A := A) (B := B) (k := 0) (by omega) rfl hc
      rw [HR.out, pos_top hA, HL0.out] at h2
      exact h2
    subst hres
    clear hc HS0 HL0 HR
    have y0 : w.heap.size < w3.heap.size := by omega
    have y1 : w.heap.size + 1 < w3.heap.size := by omega
    have hP3 := trip_alloc (o := .cells #[.int .i64 (x + 1), .int .i64 0] 25) hP3
    go_wp2_with fail
    refine ((H4 _ true HC.out).out).mono ?_
    rintro e w4 ⟨rfl, hb⟩
    have hP4 := trip_next hb hP3
    have hQ := hP4
    obtain ⟨c40, c41, c42, c43, c44, c45, c46, c47, c48, HB4⟩ := hQ
    have hr4 := bcell hb
    clear hb HB4
    go_wp2_with fail
    refine bodyPost_ret (v := .agg #[.int .i64 (x + 1), .int .i64 0]) (by simp [*, results, Tryd.results51, go_sem]) rfl ⟨rfl, ?_⟩
    exact (hP4.2.2.2.2.2.2.2.2.2.setCell (Nat.le_add_right w.heap.size 2) _).setCell (Nat.le_add_right w.heap.size 2) _
  · have HC := Lib.hid (by simpa using hc : ltB (sc (x + 1) 0) B = false)
    have hs1 : sbt A B 0 17 = sbt A B 1 16 := by
      refine sbt_next (k := 0) (by omega) rfl ?_
      rw [le_high, ← HS0.out]
      unfold ltB at hc
      simpa using hc
    have HS1 := Lib.hid hs1
    clear hc hs1 HS0 HL0
    have y0 : w.heap.size < w3.heap.size := by omega
    have y1 : w.heap.size + 1 < w3.heap.size := by omega
    have hP3 := trip_alloc (o := .cells #[.int .i64 (x + 1), .int .i64 0] 25) hP3
    go_wp2_with fail
    refine ((H4 _ false HC.out).out).mono ?_
    rintro e w4 ⟨rfl, hb⟩
    have hP4 := trip_next hb hP3
    have hQ := hP4
    obtain ⟨c40, c41, c42, c43, c44, c45, c46, c47, c48, HB4⟩ := hQ
    have hr4 := bcell hb
    clear hb HB4
    go_wp2_with fail
    go_loopw [6] (fun s wr => ∃ k : Nat, s = .int .i64 k ∧ 1 ≤ k ∧ k ≤ 17 ∧ Hid (sbt A B 0 17 = sbt A B k (17 - k)) ∧ TripS w (.int .i64 ta) (.int .i64 pa) (.int .i64 tb) (.int .i64 pb) wr) (fun s _ => 17 - (intOf s).toNat)
    case atStart => exact ⟨1, rfl, by omega, by omega, HS1, hP4⟩
    case round =>
      obtain ⟨k, rfl, hk1, hk, hs, hP⟩ := hrel
      clear hP1 hP2 hP3 hP4 c10 c11 c12 c13 c14 c15 c16 c17 c18 c20 c21 c22 c23 c24 c25 c26 c27 c28 c30 c31 c32 c33 c34 c35 c36 c37 c38 c40 c41 c42 c43 c44 c45 c46 c47 c48 hr4 HS1 HC
      have hP1 := hP
      have hQ := hP
      obtain ⟨c10, c11, c12, c13, c14, c15, c16, c17, c18, HB1⟩ := hQ
      clear hP HB1
      by_cases hlt : k < 17
      · have q1 : (24 - (k : Int)).toNat = 24 - k := by omega
        have q2 : (0 : Int) ≤ 24 - (k : Int) := by omega
        have q3 : (24 : Int) - (k : Int) ≤ 64 := by omega
        have hp := two_pos (24 - k)
        have hpl := pow_le (24 - k) 24 (by omega)
        have e24 : (2 : Int) ^ 24 = 16777216 := by decide
        rw [e24] at hpl
        have hd0 := Int.ediv_nonneg hA (Int.le_of_lt hp)
        have hd1 := Int.ediv_mul_le A (Int.ne_of_gt hp)
        have hd2 : A / 2 ^ (24 - k) ≤ A := Int.ediv_le_self _ hA
        have hmul : (A / 2 ^ (24 - k) + 1) * 2 ^ (24 - k) = A / 2 ^ (24 - k) * 2 ^ (24 - k) + 2 ^ (24 - k) := by rw [Int.add_mul, Int.one_mul]
        have q4 : IntKind.i64.wrap (A / 2 ^ (24 - k) + 1) = A / 2 ^ (24 - k) + 1 := IntWalk.i64_in _ (by omega)
        have q6 : 0 ≤ A / 2 ^ (24 - k) * 2 ^ (24 - k) := Int.mul_nonneg hd0 (Int.le_of_lt hp)
        have q5 : IntKind.i64.wrap ((A / 2 ^ (24 - k) + 1) * 2 ^ (24 - k)) = (A / 2 ^ (24 - k) + 1) * 2 ^ (24 - k) := IntWalk.i64_in _ (by rw [hmul]; omega)
        have HM : ∀ W, Hid (Calls Tryd.prog 49 #[.int .i64 (A / 2 ^ (24 - k) + 1), .int .i64 k] W fun e w' => e = .returned (.agg #[.int .i64 ((mkD (A / 2 ^ (24 - k) + 1) k).1), .int .i64 ((mkD (A / 2 ^ (24 - k) + 1) k).2)]) ∧ Below W.heap.size W w') := fun W => Lib.hid (l2Make_calls _ k W (by omega) (by omega) (by omega))
        have hlow : lowD A k = A / 2 ^ (24 - k) + 1 := rfl
        by_cases hc : (A / 2 ^ (24 - k) + 1) * 2 ^ (24 - k) < B
        · have hres : mkD (A / 2 ^ (24 - k) + 1) k = r := by
            rw [← HR.out, sbt_yes hlt hs.out (le_high.2 hc), pos_top hA]
            rfl
          rw [hres] at HM
          clear hres HR hlow hs hp hpl e24 hd0 hd1 hd2 hmul q6
          go_wp2_with fail
          refine ((H5 _).out).mono ?_
          rintro e w2 ⟨rfl, hb⟩
          have hP2 := trip_next hb hP1
          have hQ := hP2
          obtain ⟨c20, c21, c22, c23, c24, c25, c26, c27, c28, HB2⟩ := hQ
          clear hb HB2
          go_wp2_with fail
          refine ((H6 _).out).mono ?_
          rintro e w3 ⟨rfl, hb⟩
          have hP3 := trip_next hb hP2
          have hQ := hP3
          obtain ⟨c30, c31, c32, c33, c34, c35, c36, c37, c38, HB3⟩ := hQ
          clear hb HB3
          go_wp2_with fail
          refine ((HM _).out).mono ?_
          rintro e w4 ⟨rfl, hb⟩
          have hP4 := trip_next hb hP3
          have hQ := hP4
          obtain ⟨c40, c41, c42, c43, c44, c45, c46, c47, c48, HB4⟩ := hQ
          clear hb HB4
          go_wp2_with fail
          refine bodyPost_ret (v := .agg #[.int .i64 r.1, .int .i64 r.2]) (by simp [*, results, Tryd.results51, go_sem]) rfl ⟨rfl, ?_⟩
          exact (hP4.2.2.2.2.2.2.2.2.2.setCell (Nat.le_add_right w.heap.size 2) _).setCell (Nat.le_add_right w.heap.size 2) _
        · have hs2 := Lib.hid (sbt_next hlt hs.out (fun h => hc (le_high.1 h)))
          clear HM hlow hs hp hpl e24 hd0 hd1 hd2 hmul q6
          go_wp2_with fail
          refine ((H5 _).out).mono ?_
          rintro e w2 ⟨rfl, hb⟩
          have hP2 := trip_next hb hP1
          have hQ := hP2
          obtain ⟨c20, c21, c22, c23, c24, c25, c26, c27, c28, HB2⟩ := hQ
          clear hb HB2
          go_wp2_with fail
          refine ((H6 _).out).mono ?_
          rintro e w3 ⟨rfl, hb⟩
          have hP3 := trip_next hb hP2
          have hQ := hP3
          obtain ⟨c30, c31, c32, c33, c34, c35, c36, c37, c38, HB3⟩ := hQ
          clear hb HB3
          go_wp2_with fail
          go_roundw
          case rel => exact ⟨k + 1, by go_num, by omega, by omega, hs2, hP3⟩
          case measure => simp [intOf]; omega
      · obtain rfl : k = 17 := by omega
        obtain rfl : (0, 17) = r := by rw [← HR.out, sbt_end hs.out]
        clear HR hs
        go_wp2_with fail
        refine bodyPost_ret (v := .agg #[.int .i64 0, .int .i64 17]) (by simp [*, results, Tryd.results51, go_sem]) rfl ⟨rfl, ?_⟩
        exact (hP1.2.2.2.2.2.2.2.2.2.setCell (Nat.le_add_right w.heap.size 2) _).setCell (Nat.le_add_right w.heap.size 2) _

end Go.Proofs.YtlblkmhiildgeaaDoor
