/- The simplest number between two, by the program. -/
import Derived.Test.YtlblkmhiildgeaaDoorDySum
import Derived.Test.YtlblkmhiildgeaaDoorDyBtw
namespace Go.Proofs.YtlblkmhiildgeaaDoor
open Go.RowKit
set_option linter.unusedVariables false

theorem floAt (t : Int) (p m : Nat) (w : World) (h1 : -1000000 ≤ t) (h2 : t ≤ 1000000) (hp : p ≤ 16) (hm : m ≤ 16) : Calls Tryd.prog 40 #[.agg #[.int .i64 t, .int .i64 p], .int .i64 m] w fun e w' => e = .returned (.int .i64 (flo t p m)) ∧ Below w.heap.size w w' := by
  unfold flo
  by_cases h : m < p
  · rw [if_pos h]
    exact floorAt_lo t p m w h (by omega)
  · rw [if_neg h]
    exact floorAt_hi t p m w (by omega) (by omega) (by omega) (by omega)

theorem betweenI_no (ta pa tb pb : Int) (w : World) (hc : ∀ W, Calls Tryd.prog 15 #[.agg #[.int .i64 ta, .int .i64 pa], .agg #[.int .i64 tb, .int .i64 pb]] W fun e w' => e = .returned (.tuple #[.int .i64 0, .bool false]) ∧ Below W.heap.size W w') : Calls Tryd.prog 20 #[.agg #[.int .i64 ta, .int .i64 pa], .agg #[.int .i64 tb, .int .i64 pb]] w fun e w' => e = .returned (.tuple #[.agg #[.int .i64 0, .int .i64 0], .bool false]) ∧ Below w.heap.size w w' := by
  have HC : ∀ W, Hid (Calls Tryd.prog 15 #[.agg #[.int .i64 ta, .int .i64 pa], .agg #[.int .i64 tb, .int .i64 pb]] W fun e w' => e = .returned (.tuple #[.int .i64 0, .bool false]) ∧ Below W.heap.size W w') := fun W => Lib.hid (hc W)
  clear hc
  have hP0 := trip_start w (.int .i64 ta) (.int .i64 pa) (.int .i64 tb) (.int .i64 pb) 25
  go_enter Tryd.func20, Tryd.ntmps20
  go_wp2_with fail
  refine ((HC _).out).mono ?_
  rintro e w1 ⟨rfl, hb⟩
  have hP1 := trip_next hb hP0
  have hQ := hP1
  obtain ⟨c10, c11, c12, c13, c14, c15, c16, c17, c18, HB1⟩ := hQ
  clear hb HB1
  go_wp2_with fail
  refine bodyPost_ret (v := .tuple #[.agg #[.int .i64 0, .int .i64 0], .bool false]) (by simp [*, results, Tryd.results20, go_sem]) rfl ⟨rfl, ?_⟩
  exact (hP1.2.2.2.2.2.2.2.2.2.setCell (Nat.le_add_right w.heap.size 2) _).setCell (Nat.le_add_right w.heap.size 2) _

theorem betweenI_ge (ta : Int) (pa : Nat) (tb : Int) (pb : Nat) (c : Int) (w : World) (h0 : 0 ≤ c) (hc : ∀ W, Calls Tryd.prog 15 #[.agg #[.int .i64 ta, .int .i64 pa], .agg #[.int .i64 tb, .int .i64 pb]] W fun e w' => e = .returned (.tuple #[.int .i64 c, .bool true]) ∧ Below W.heap.size W w') : Calls Tryd.prog 20 #[.agg #[.int .i64 ta, .int .i64 pa], .agg #[.int .i64 tb, .int .i64 pb]] w fun e w' => e = .returned (.tuple #[.agg #[.int .i64 0, .int .i64 0], .bool false]) ∧ Below w.heap.size w w' := by
  have HC : ∀ W, Hid (Calls Tryd.prog 15 #[.agg #[.int .i64 ta, .int .i64 pa], .agg #[.int .i64 tb, .int .i64 pb]] W fun e w' => e = .returned (.tuple #[.int .i64 c, .bool true]) ∧ Below W.heap.size W w') := fun W => Lib.hid (hc W)
  clear hc
  have hP0 := trip_start w (.int .i64 ta) (.int .i64 pa) (.int .i64 tb) (.int .i64 pb) 25
  go_enter Tryd.func20, Tryd.ntmps20
  go_wp2_with fail
  refine ((HC _).out).mono ?_
  rintro e w1 ⟨rfl, hb⟩
  have hP1 := trip_next hb hP0
  have hQ := hP1
  obtain ⟨c10, c11, c12, c13, c14, c15, c16, c17, c18, HB1⟩ := hQ
  clear hb HB1
  go_wp2_with fail
  refine bodyPost_ret (v := .tuple #[.agg #[.int .i64 0, .int .i64 0], .bool false]) (by simp [*, results, Tryd.results20, go_sem]) rfl ⟨rfl, ?_⟩
  exact (hP1.2.2.2.2.2.2.2.2.2.setCell (Nat.le_add_right w.heap.size 2) _).setCell (Nat.le_add_right w.heap.size 2) _

set_option maxHeartbeats 2000000 in
theorem betweenI_lt (ta tb : Int) (pa pb : Nat) (w : World) (a1 : -1000000 ≤ ta) (a2 : ta ≤ 1000000) (a3 : pa ≤ 16) (b1 : -1000000 ≤ tb) (b2 : tb ≤ 1000000) (b3 : pb ≤ 16) (hT : DeBr w)
    (hc : ∀ W, Calls Tryd.prog 15 #[.agg #[.int .i64 ta, .int .i64 pa], .agg #[.int .i64 tb, .int .i64 pb]] W fun e w' => e = .returned (.tuple #[.int .i64 (-1), .bool true]) ∧ Below W.heap.size W w') : Calls Tryd.prog 20 #[.agg #[.int .i64 ta, .int .i64 pa], .agg #[.int .i64 tb, .int .i64 pb]] w fun e w' => e = .returned (.tuple #[.agg #[.int .i64 ((finD (btw (sc ta pa) (sc tb pb))).1), .int .i64 ((finD (btw (sc ta pa) (sc tb pb))).2.1)], .bool ((finD (btw (sc ta pa) (sc tb pb))).2.2)]) ∧ Below w.heap.size w w' := by
  have HC : ∀ W, Hid (Calls Tryd.prog 15 #[.agg #[.int .i64 ta, .int .i64 pa], .agg #[.int .i64 tb, .int .i64 pb]] W fun e w' => e = .returned (.tuple #[.int .i64 (-1), .bool true]) ∧ Below W.heap.size W w') := fun W => Lib.hid (hc W)
  have HFA : ∀ W (k : Nat), k ≤ 16 → Hid (Calls Tryd.prog 40 #[.agg #[.int .i64 ta, .int .i64 pa], .int .i64 k] W fun e w' => e = .returned (.int .i64 (flo ta pa k)) ∧ Below W.heap.size W w') := fun W k hk => Lib.hid (floAt ta pa k W a1 a2 a3 hk)
  have HN : ∀ W, Hid (Calls Tryd.prog 47 #[.agg #[.int .i64 tb, .int .i64 pb]] W fun e w' => e = .returned (.agg #[.int .i64 (-tb), .int .i64 pb]) ∧ Below W.heap.size W w') := fun W => Lib.hid (negated_calls tb pb W (by omega) (by omega))
  have HFB : ∀ W (k : Nat), k ≤ 16 → Hid (Calls Tryd.prog 40 #[.agg #[.int .i64 (-tb), .int .i64 pb], .int .i64 k] W fun e w' => e = .returned (.int .i64 (flo (-tb) pb k)) ∧ Below W.heap.size W w') := fun W k hk => Lib.hid (floAt (-tb) pb k W (by omega) (by omega) b3 hk)
  have HR : ∀ W t (k : Nat), k ≤ 16 → Below w.heap.size w W → Hid (Calls Tryd.prog 39 #[.int .i64 t, .int .i64 k] W fun e w' => e = .returned (.tuple #[.agg #[.int .i64 ((finD (mkD t k)).1), .int .i64 ((finD (mkD t k)).2.1)], .bool ((finD (mkD t k)).2.2)]) ∧ Below W.heap.size W w') := fun W t k hk hb => Lib.hid (reduced_calls t k W (by omega) (hT.below hb))
  have HLA : ∀ k : Nat, k ≤ 16 → Hid (flo ta pa k + 1 = lowD (sc ta pa) k ∧ -65536000000 ≤ flo ta pa k ∧ flo ta pa k ≤ 65536000000) := fun k hk => Lib.hid ⟨by rw [flo_eq (by omega) (by omega)]; rfl, flo_bd a1 a2 hk⟩
  have HLB : ∀ k : Nat, k ≤ 16 → Hid (-flo (-tb) pb k - 1 = highD (sc tb pb) k ∧ -65536000000 ≤ flo (-tb) pb k ∧ flo (-tb) pb k ≤ 65536000000) := fun k hk => Lib.hid ⟨by rw [flo_eq (by omega) (by omega), sc_neg]; rfl, flo_bd (by omega) (by omega) hk⟩
  clear hc hT a1 a2 a3 b1 b2 b3
  generalize sc ta pa = A at HLA ⊢
  generalize sc tb pb = B at HLB ⊢
  have HE : Hid (sbt A B 0 17 = sbt A B 17 (17 - 17) → finD (btw A B) = (0, 0, false)) := Lib.hid fun h => by rw [sbt_end h, fin_end]
  generalize hr : finD (btw A B) = r at HE ⊢
  have HRR := Lib.hid hr
  clear hr
  have hP0 := trip_start w (.int .i64 ta) (.int .i64 pa) (.int .i64 tb) (.int .i64 pb) 25
  go_enter Tryd.func20, Tryd.ntmps20
  go_wp2_with fail
  refine ((HC _).out).mono ?_
  rintro e w1 ⟨rfl, hb⟩
  have hP1 := trip_next hb hP0
  have hQ := hP1
  obtain ⟨c10, c11, c12, c13, c14, c15, c16, c17, c18, HB1⟩ := hQ
  clear hb HB1
  go_wp2_with fail
  go_loopw [24] (fun x wr => ∃ k : Nat, x = .int .i64 k ∧ k ≤ 17 ∧ Hid (sbt A B 0 17 = sbt A B k (17 - k)) ∧ TripS w (.int .i64 ta) (.int .i64 pa) (.int .i64 tb) (.int .i64 pb) wr) (fun x _ => 17 - (intOf x).toNat)
  case atStart => exact ⟨0, rfl, by omega, Lib.hid rfl, hP1⟩
  case round =>
    obtain ⟨k, rfl, hk, hs, hP⟩ := hrel
    clear hP1 c10 c11 c12 c13 c14 c15 c16 c17 c18
    have hP1 := hP
    have hQ := hP
    obtain ⟨c10, c11, c12, c13, c14, c15, c16, c17, c18, HB1⟩ := hQ
    clear hP HB1
    by_cases hlt : k < 17
    · have hk16 : k ≤ 16 := by omega
      have F1 := fun W => HFA W k hk16
      have F2 := fun W => HFB W k hk16
      have X := HLA k hk16
      have Y := HLB k hk16
      have HR2 := fun W t => HR W t k hk16
      clear HFA HFB HLA HLB HE HR
      generalize flo ta pa k = x at F1 X
      generalize flo (-tb) pb k = y at F2 Y
      obtain ⟨X1, X2, X3⟩ := X.out
      obtain ⟨Y1, Y2, Y3⟩ := Y.out
      have HX := Lib.hid X1
      have HY := Lib.hid Y1
      clear X Y X1 Y1
      go_wp2_with fail
      refine ((F1 _).out).mono ?_
      rintro e w2 ⟨rfl, hb⟩
      have hP2 := trip_next hb hP1
      have hQ := hP2
      obtain ⟨c20, c21, c22, c23, c24, c25, c26, c27, c28, HB2⟩ := hQ
      clear hb HB2
      go_wp2_with fail
      refine ((HN _).out).mono ?_
      rintro e w3 ⟨rfl, hb⟩
      have hP3 := trip_next hb hP2
      have hQ := hP3
      obtain ⟨c30, c31, c32, c33, c34, c35, c36, c37, c38, HB3⟩ := hQ
      clear hb HB3
      go_wp2_with fail
      refine ((F2 _).out).mono ?_
      rintro e w4 ⟨rfl, hb⟩
      have hP4 := trip_next hb hP3
      have hQ := hP4
      obtain ⟨c40, c41, c42, c43, c44, c45, c46, c47, c48, HB4⟩ := hQ
      clear hb HB4
      by_cases hc : x + 1 ≤ -y - 1
      · have HM : ∀ t, t = max (x + 1) (min (-y - 1) 0) → Hid (finD (mkD t k) = r) := fun t ht => Lib.hid (by
          rw [ht, HX.out, HY.out, ← HRR.out, sbt_yes hlt hs.out (by rw [← HX.out, ← HY.out]; exact hc)])
        clear HRR HX HY hs
        go_wp2_with fail
        all_goals
          refine (HR2 _ _ hP4.2.2.2.2.2.2.2.2.2).out.mono ?_
          rintro e w5 ⟨rfl, hb⟩
          have hP5 := trip_next hb hP4
          have hQ := hP5
          obtain ⟨c50, c51, c52, c53, c54, c55, c56, c57, c58, HB5⟩ := hQ
          clear hb HB5
          rw [(HM _ (by omega)).out]
          go_wp2_with fail
          refine bodyPost_ret (v := .tuple #[.agg #[.int .i64 r.1, .int .i64 r.2.1], .bool r.2.2]) (by simp [*, results, Tryd.results20, go_sem]) rfl ⟨rfl, ?_⟩
          exact (hP5.2.2.2.2.2.2.2.2.2.setCell (Nat.le_add_right w.heap.size 2) _).setCell (Nat.le_add_right w.heap.size 2) _
      · have hs2 := Lib.hid (sbt_next hlt hs.out (by rw [← HX.out, ← HY.out]; exact hc))
        clear HRR HX HY hs
        go_wp2_with fail
        go_roundw
        case rel => exact ⟨k + 1, by go_num, by omega, hs2, hP4⟩
        case measure => simp [intOf]; omega
    · obtain rfl : k = 17 := by omega
      obtain rfl := HE.out hs.out
      clear HRR HE hs
      go_wp2_with fail
      refine bodyPost_ret (v := .tuple #[.agg #[.int .i64 0, .int .i64 0], .bool false]) (by simp [*, results, Tryd.results20, go_sem]) rfl ⟨rfl, ?_⟩
      exact (hP1.2.2.2.2.2.2.2.2.2.setCell (Nat.le_add_right w.heap.size 2) _).setCell (Nat.le_add_right w.heap.size 2) _

end Go.Proofs.YtlblkmhiildgeaaDoor
