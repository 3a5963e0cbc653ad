/- The walk of laws.FnExactSimplestBetween. -/
import Derived.Test.YtlblkmhiildgeaaDoorDyBtwA
namespace Go.Proofs.YtlblkmhiildgeaaDoor
open Go.RowKit
set_option linter.unusedVariables false

theorem betweenS_no1 (ta pa tb pb : Int) (w : World) (ha : goodD ta pa = false) : Calls Tryd.prog 21 #[.agg #[.int .i64 ta, .int .i64 pa], .agg #[.int .i64 tb, .int .i64 pb]] w fun e w' => e = .returned (.tuple #[.agg #[.int .i64 0, .int .i64 0], .bool false]) ∧ Below w.heap.size w w' := by
  have HA := Lib.hid ha
  clear ha
  have hP0 := trip_start w (.int .i64 ta) (.int .i64 pa) (.int .i64 tb) (.int .i64 pb) 25
  go_enter Tryd.func21, Tryd.ntmps21
  go_wp2_with fail
  refine ((goodS_calls _ _ _).mono fun e w' h => (HA.out ▸ h : _ ∧ _)).mono ?_
  rintro e w1 ⟨rfl, hb⟩
  have hP1 := trip_next hb hP0
  have hQ := hP1
  obtain ⟨c10, c11, c12, c13, c14, c15, c16, c17, c18, HB1⟩ := hQ
  clear hb HB1
  go_wp2_with fail
  refine bodyPost_ret (v := .tuple #[.agg #[.int .i64 0, .int .i64 0], .bool false]) (by simp [*, results, Tryd.results21, go_sem]) rfl ⟨rfl, ?_⟩
  exact (hP1.2.2.2.2.2.2.2.2.2.setCell (Nat.le_add_right w.heap.size 2) _).setCell (Nat.le_add_right w.heap.size 2) _

theorem betweenS_no2 (ta pa tb pb : Int) (w : World) (ha : goodD ta pa = true) (hb : goodD tb pb = false) : Calls Tryd.prog 21 #[.agg #[.int .i64 ta, .int .i64 pa], .agg #[.int .i64 tb, .int .i64 pb]] w fun e w' => e = .returned (.tuple #[.agg #[.int .i64 0, .int .i64 0], .bool false]) ∧ Below w.heap.size w w' := by
  have HA := Lib.hid ha
  have HBD := Lib.hid hb
  clear ha hb
  have hP0 := trip_start w (.int .i64 ta) (.int .i64 pa) (.int .i64 tb) (.int .i64 pb) 25
  go_enter Tryd.func21, Tryd.ntmps21
  go_wp2_with fail
  refine ((goodS_calls _ _ _).mono fun e w' h => (HA.out ▸ h : _ ∧ _)).mono ?_
  rintro e w1 ⟨rfl, hb⟩
  have hP1 := trip_next hb hP0
  have hQ := hP1
  obtain ⟨c10, c11, c12, c13, c14, c15, c16, c17, c18, HB1⟩ := hQ
  clear hb HB1
  go_wp2_with fail
  refine ((goodS_calls _ _ _).mono fun e w' h => (HBD.out ▸ h : _ ∧ _)).mono ?_
  rintro e w2 ⟨rfl, hb⟩
  have hP2 := trip_next hb hP1
  have hQ := hP2
  obtain ⟨c20, c21, c22, c23, c24, c25, c26, c27, c28, HB2⟩ := hQ
  clear hb HB2
  go_wp2_with fail
  refine bodyPost_ret (v := .tuple #[.agg #[.int .i64 0, .int .i64 0], .bool false]) (by simp [*, results, Tryd.results21, go_sem]) rfl ⟨rfl, ?_⟩
  exact (hP2.2.2.2.2.2.2.2.2.2.setCell (Nat.le_add_right w.heap.size 2) _).setCell (Nat.le_add_right w.heap.size 2) _

theorem betweenS_ge (ta tb : Int) (pa pb : Nat) (w : World) (ha1 : -1000000 ≤ ta) (ha2 : ta ≤ 1000000) (ha3 : pa ≤ 16) (hb1 : -1000000 ≤ tb) (hb2 : tb ≤ 1000000) (hb3 : pb ≤ 16) (ga : goodD ta pa = true) (gb : goodD tb pb = true) (hge : ¬ sc ta pa < sc tb pb) : Calls Tryd.prog 21 #[.agg #[.int .i64 ta, .int .i64 pa], .agg #[.int .i64 tb, .int .i64 pb]] w fun e w' => e = .returned (.tuple #[.agg #[.int .i64 0, .int .i64 0], .bool false]) ∧ Below w.heap.size w w' := by
  have HL : ∀ W, Hid (Calls Tryd.prog 45 #[.agg #[.int .i64 ta, .int .i64 pa], .agg #[.int .i64 tb, .int .i64 pb]] W fun e w' => e = .returned (.bool false) ∧ Below W.heap.size W w') := fun W => Lib.hid (lessB ta tb pa pb W (by omega) (by omega) (by omega) (by omega) (by omega) (by omega) false (by unfold ltB; rw [decide_eq_false_iff_not]; exact hge))
  have HA := Lib.hid ga
  have HBD := Lib.hid gb
  clear ga gb hge ha1 ha2 ha3 hb1 hb2 hb3
  have hP0 := trip_start w (.int .i64 ta) (.int .i64 pa) (.int .i64 tb) (.int .i64 pb) 25
  go_enter Tryd.func21, Tryd.ntmps21
  go_wp2_with fail
  refine ((goodS_calls _ _ _).mono fun e w' h => (HA.out ▸ h : _ ∧ _)).mono ?_
  rintro e w1 ⟨rfl, hb⟩
  have hP1 := trip_next hb hP0
  have hQ := hP1
  obtain ⟨c10, c11, c12, c13, c14, c15, c16, c17, c18, HB1⟩ := hQ
  clear hb HB1
  go_wp2_with fail
  refine ((goodS_calls _ _ _).mono fun e w' h => (HBD.out ▸ h : _ ∧ _)).mono ?_
  rintro e w2 ⟨rfl, hb⟩
  have hP2 := trip_next hb hP1
  have hQ := hP2
  obtain ⟨c20, c21, c22, c23, c24, c25, c26, c27, c28, HB2⟩ := hQ
  clear hb HB2
  go_wp2_with fail
  refine ((HL _).out).mono ?_
  rintro e w3 ⟨rfl, hb⟩
  have hP3 := trip_next hb hP2
  have hQ := hP3
  obtain ⟨c30, c31, c32, c33, c34, c35, c36, c37, c38, HB3⟩ := hQ
  clear hb HB3
  go_wp2_with fail
  refine bodyPost_ret (v := .tuple #[.agg #[.int .i64 0, .int .i64 0], .bool false]) (by simp [*, results, Tryd.results21, go_sem]) rfl ⟨rfl, ?_⟩
  exact (hP3.2.2.2.2.2.2.2.2.2.setCell (Nat.le_add_right w.heap.size 2) _).setCell (Nat.le_add_right w.heap.size 2) _

theorem betweenS_lt (ta tb : Int) (pa pb : Nat) (w : World) (ha1 : -1000000 ≤ ta) (ha2 : ta ≤ 1000000) (ha3 : pa ≤ 16) (hb1 : -1000000 ≤ tb) (hb2 : tb ≤ 1000000) (hb3 : pb ≤ 16) (ga : goodD ta pa = true) (gb : goodD tb pb = true) (cb : pb = 0 ∨ tb % 2 ≠ 0) (hlt : sc ta pa < sc tb pb) : Calls Tryd.prog 21 #[.agg #[.int .i64 ta, .int .i64 pa], .agg #[.int .i64 tb, .int .i64 pb]] w fun e w' => e = .returned (.tuple #[.agg #[.int .i64 ((finD (btw (sc ta pa) (sc tb pb))).1), .int .i64 ((finD (btw (sc ta pa) (sc tb pb))).2.1)], .bool ((finD (btw (sc ta pa) (sc tb pb))).2.2)]) ∧ Below w.heap.size w w' := by
  have HL : ∀ W, Hid (Calls Tryd.prog 45 #[.agg #[.int .i64 ta, .int .i64 pa], .agg #[.int .i64 tb, .int .i64 pb]] W fun e w' => e = .returned (.bool true) ∧ Below W.heap.size W w') := fun W => Lib.hid (lessB ta tb pa pb W (by omega) (by omega) (by omega) (by omega) (by omega) (by omega) true (by unfold ltB; rw [decide_eq_true_iff]; exact hlt))
  have HM : ∀ W, Hid (Calls Tryd.prog 51 #[.agg #[.int .i64 ta, .int .i64 pa], .agg #[.int .i64 tb, .int .i64 pb]] W fun e w' => e = .returned (.agg #[.int .i64 ((btw (sc ta pa) (sc tb pb)).1), .int .i64 ((btw (sc ta pa) (sc tb pb)).2)]) ∧ Below W.heap.size W w') := fun W => Lib.hid (btwS_all ta tb pa pb W ha1 ha2 ha3 hb1 hb2 hb3 cb hlt)
  have HI : ∀ W, Hid (Calls Tryd.prog 42 #[.agg #[.int .i64 ((btw (sc ta pa) (sc tb pb)).1), .int .i64 ((btw (sc ta pa) (sc tb pb)).2)]] W fun e w' => e = .returned (.tuple #[.agg #[.int .i64 ((finD (btw (sc ta pa) (sc tb pb))).1), .int .i64 ((finD (btw (sc ta pa) (sc tb pb))).2.1)], .bool ((finD (btw (sc ta pa) (sc tb pb))).2.2)]) ∧ Below W.heap.size W w') := fun W => Lib.hid (l2If_calls (btw (sc ta pa) (sc tb pb)) W)
  have HA := Lib.hid ga
  have HBD := Lib.hid gb
  clear ga gb hlt ha1 ha2 ha3 hb1 hb2 hb3 cb
  generalize finD (btw (sc ta pa) (sc tb pb)) = r at HI ⊢
  generalize (btw (sc ta pa) (sc tb pb)) = x at HM HI
  have hP0 := trip_start w (.int .i64 ta) (.int .i64 pa) (.int .i64 tb) (.int .i64 pb) 25
  go_enter Tryd.func21, Tryd.ntmps21
  go_wp2_with fail
  refine ((goodS_calls _ _ _).mono fun e w' h => (HA.out ▸ h : _ ∧ _)).mono ?_
  rintro e w1 ⟨rfl, hb⟩
  have hP1 := trip_next hb hP0
  have hQ := hP1
  obtain ⟨c10, c11, c12, c13, c14, c15, c16, c17, c18, HB1⟩ := hQ
  clear hb HB1
  go_wp2_with fail
  refine ((goodS_calls _ _ _).mono fun e w' h => (HBD.out ▸ h : _ ∧ _)).mono ?_
  rintro e w2 ⟨rfl, hb⟩
  have hP2 := trip_next hb hP1
  have hQ := hP2
  obtain ⟨c20, c21, c22, c23, c24, c25, c26, c27, c28, HB2⟩ := hQ
  clear hb HB2
  go_wp2_with fail
  refine ((HL _).out).mono ?_
  rintro e w3 ⟨rfl, hb⟩
  have hP3 := trip_next hb hP2
  have hQ := hP3
  obtain ⟨c30, c31, c32, c33, c34, c35, c36, c37, c38, HB3⟩ := hQ
  clear hb HB3
  go_wp2_with fail
  refine ((HM _).out).mono ?_
  rintro e w4 ⟨rfl, hb⟩
  have hP4 := trip_next hb hP3
  have hQ := hP4
  obtain ⟨c40, c41, c42, c43, c44, c45, c46, c47, c48, HB4⟩ := hQ
  clear hb HB4
  go_wp2_with fail
  refine ((HI _).out).mono ?_
  rintro e w5 ⟨rfl, hb⟩
  have hP5 := trip_next hb hP4
  have hQ := hP5
  obtain ⟨c50, c51, c52, c53, c54, c55, c56, c57, c58, HB5⟩ := hQ
  clear hb HB5
  go_wp2_with fail
  refine bodyPost_ret (v := .tuple #[.agg #[.int .i64 r.1, .int .i64 r.2.1], .bool r.2.2]) (by simp [*, results, Tryd.results21, go_sem]) rfl ⟨rfl, ?_⟩
  exact (hP5.2.2.2.2.2.2.2.2.2.setCell (Nat.le_add_right w.heap.size 2) _).setCell (Nat.le_add_right w.heap.size 2) _

set_option maxHeartbeats 4000000 in
theorem betweenLaw_core (ta pa tb pb : Int) (r : Int × Int × Bool) (w : World)
    (HM : ∀ W, Hid (Calls Tryd.prog 21 #[.agg #[.int .i64 ta, .int .i64 pa], .agg #[.int .i64 tb, .int .i64 pb]] W fun e w' => e = .returned (.tuple #[.agg #[.int .i64 r.1, .int .i64 r.2.1], .bool r.2.2]) ∧ Below W.heap.size W w'))
    (HI : ∀ W, Below w.heap.size w W → Hid (Calls Tryd.prog 20 #[.agg #[.int .i64 ta, .int .i64 pa], .agg #[.int .i64 tb, .int .i64 pb]] W fun e w' => e = .returned (.tuple #[.agg #[.int .i64 r.1, .int .i64 r.2.1], .bool r.2.2]) ∧ Below W.heap.size W w')) :
    Calls Tryd.prog 9 #[.agg #[.int .i64 ta, .int .i64 pa], .agg #[.int .i64 tb, .int .i64 pb]] w fun e w' => e = .returned (.bool true) ∧ Below w.heap.size w w' := by
  have hS0 := pair_drew (pair_start w (.int .i64 ta) (.int .i64 pa) (.int .i64 tb) (.int .i64 pb) 46)
  go_enter Tryd.func9, Tryd.ntmps9
  go_upto_region 1 with fail
  go_cut [5, 6] (fun s5 s6 wx => ∃ g : Nat, s5 = .pointer (some ⟨g, 0, none⟩) ∧ s6 = .bool r.2.2 ∧ QuadS w (.int .i64 ta) (.int .i64 pa) (.int .i64 tb) (.int .i64 pb) g (.int .i64 r.1) (.int .i64 r.2.1) wx)
  case first =>
    go_region_held3 (fun w' : World => w'.cell? ⟨w.heap.size, 0, none⟩ = some (.int .i64 ta) ∧ w'.cell? ⟨w.heap.size, 1, none⟩ = some (.int .i64 pa) ∧ w'.cell? ⟨w.heap.size + 1, 0, none⟩ = some (.int .i64 tb) ∧ w'.cell? ⟨w.heap.size + 1, 1, none⟩ = some (.int .i64 pb) ∧ w.heap.size + 1 < w'.heap.size ∧ Below w.heap.size w w') (first | exact hS0 | (go_split_ands; exact ⟨‹_›, ‹_›, ‹_›, ‹_›, ‹_›, ‹_›⟩) | (go_split_ands; exact pair_next hbc ⟨‹_›, ‹_›, ‹_›, ‹_›, ‹_›, ‹_›⟩) | (go_split_ands; exact pair_next hbb ⟨‹_›, ‹_›, ‹_›, ‹_›, ‹_›, ‹_›⟩) | (go_split_ands; exact pair_next hba ⟨‹_›, ‹_›, ‹_›, ‹_›, ‹_›, ‹_›⟩) | (go_split_ands; exact pair_alloc ⟨‹_›, ‹_›, ‹_›, ‹_›, ‹_›, ‹_›⟩) | (go_split_ands; refine pair_swap ?_ ⟨‹_›, ‹_›, ‹_›, ‹_›, ‹_›, ‹_›⟩; (omega)) | (go_split_ands; refine pair_far ?_ ⟨‹_›, ‹_›, ‹_›, ‹_›, ‹_›, ‹_›⟩; (omega))) (first | (go_at_call 36; (with_reducible refine (toD_calls ta pa _).mono ?_); rintro e wa ⟨rfl, hba⟩; have hr := bcell hba; have hz := hba.size; (try simp at hz)) | (go_at_call 36; (with_reducible refine (toD_calls tb pb _).mono ?_); rintro e wb ⟨rfl, hbb⟩; have hr := bcell hbb; have hz := hbb.size; (try simp at hz); (try (have hab := Below.trans hba (Below.mono hbb hba.size); have hr := bcell hab))) | (go_at_call 21; (with_reducible refine ((HM _).out).mono ?_); rintro e wc ⟨rfl, hbc⟩; have hr := bcell hbc; have hz := hbc.size; (try simp at hz); (try (have hbbc := Below.trans hbb (Below.mono hbc hbb.size); have hr := bcell hbbc)); (try (have habc := Below.trans hab (Below.mono hbc hab.size); have hr := bcell habc))))
    all_goals
      rename_i hH
      go_wp2_with fail
      go_meet
      first
        | exact ⟨_, rfl, rfl, quad_start _ _ _ hH⟩
        | exact ⟨_, rfl, rfl, quad_done (u0 := .int .i64 0) (u1 := .int .i64 0) (by first | omega | (simp; omega)) (by simp [*, go_sem]) (by simp [*, go_sem]) hH⟩
  case rest =>
    obtain ⟨g, rfl, rfl, hQ⟩ := hcut
    have hS0 := quad_drew hQ
    have hz1 : w.heap.size + 1 < wc.heap.size := hQ.2.2.2.2.2.2.1
    have hz2 : g < wc.heap.size := hQ.2.2.2.2.2.2.2.1
    clear hQ
    go_upto_region 2 with fail
    go_cut [7, 8] (fun s7 s8 wx => ∃ g2 : Nat, s7 = .pointer (some ⟨g2, 0, none⟩) ∧ s8 = .bool r.2.2 ∧ QuadS w (.int .i64 ta) (.int .i64 pa) (.int .i64 tb) (.int .i64 pb) g (.int .i64 r.1) (.int .i64 r.2.1) wx ∧ wx.cell? ⟨g2, 0, none⟩ = some (.int .i64 r.1) ∧ wx.cell? ⟨g2, 1, none⟩ = some (.int .i64 r.2.1))
    case first =>
      go_region_held3 (fun w' : World => w'.cell? ⟨w.heap.size, 0, none⟩ = some (.int .i64 ta) ∧ w'.cell? ⟨w.heap.size, 1, none⟩ = some (.int .i64 pa) ∧ w'.cell? ⟨w.heap.size + 1, 0, none⟩ = some (.int .i64 tb) ∧ w'.cell? ⟨w.heap.size + 1, 1, none⟩ = some (.int .i64 pb) ∧ w'.cell? ⟨g, 0, none⟩ = some (.int .i64 r.1) ∧ w'.cell? ⟨g, 1, none⟩ = some (.int .i64 r.2.1) ∧ w.heap.size + 1 < w'.heap.size ∧ g < w'.heap.size ∧ Below w.heap.size w w') (first | exact hS0 | (go_split_ands; exact ⟨‹_›, ‹_›, ‹_›, ‹_›, ‹_›, ‹_›, ‹_›, ‹_›, ‹_›⟩) | (go_split_ands; exact quad_next hbc ⟨‹_›, ‹_›, ‹_›, ‹_›, ‹_›, ‹_›, ‹_›, ‹_›, ‹_›⟩) | (go_split_ands; exact quad_next hbb ⟨‹_›, ‹_›, ‹_›, ‹_›, ‹_›, ‹_›, ‹_›, ‹_›, ‹_›⟩) | (go_split_ands; exact quad_next hba ⟨‹_›, ‹_›, ‹_›, ‹_›, ‹_›, ‹_›, ‹_›, ‹_›, ‹_›⟩) | (go_split_ands; exact quad_alloc ⟨‹_›, ‹_›, ‹_›, ‹_›, ‹_›, ‹_›, ‹_›, ‹_›, ‹_›⟩) | (go_split_ands; refine quad_swap ?_ ?_ ⟨‹_›, ‹_›, ‹_›, ‹_›, ‹_›, ‹_›, ‹_›, ‹_›, ‹_›⟩; (omega); (omega)) | (go_split_ands; refine quad_far ?_ ?_ ⟨‹_›, ‹_›, ‹_›, ‹_›, ‹_›, ‹_›, ‹_›, ‹_›, ‹_›⟩; (omega); (omega))) (first | (go_at_call 36; (with_reducible refine (toD_calls ta pa _).mono ?_); rintro e wa ⟨rfl, hba⟩; have hr := bcell hba; have hz := hba.size; (try simp at hz)) | (go_at_call 36; (with_reducible refine (toD_calls tb pb _).mono ?_); rintro e wb ⟨rfl, hbb⟩; have hr := bcell hbb; have hz := hbb.size; (try simp at hz); (try (have hab := Below.trans hba (Below.mono hbb hba.size); have hr := bcell hab))) | (go_at_call 20; (with_reducible refine ((HI _ ?_).out).mono ?_); (go_split_ands; assumption); rintro e wd ⟨rfl, hbc⟩; have hr := bcell hbc; have hz := hbc.size; (try simp at hz); (try (have hbbc := Below.trans hbb (Below.mono hbc hbb.size); have hr := bcell hbbc)); (try (have habc := Below.trans hab (Below.mono hbc hab.size); have hr := bcell habc))))
      all_goals
        rename_i hH
        go_wp2_with fail
        go_meet
        refine ⟨_, rfl, rfl, hH, ?_, ?_⟩
        all_goals
          clear hH
          simp [*, go_sem]
    case rest =>
      obtain ⟨g2, rfl, rfl, hQ, k0, k1⟩ := hcut
      obtain ⟨_, _, _, _, j0, j1, _, _, hB⟩ := hQ
      have hl := hB.size
      have HB := Lib.hid hB
      clear hB hS0 hz1 hz2
      go_wp2_with fail
      refine (eqD_calls _ _ _).mono ?_
      rintro e w3 ⟨rfl, hb⟩
      have HQ := Lib.hid (HB.out.trans (hb.mono hl))
      clear hb
      go_wp2_with fail
      go_ret
      exact ⟨rfl, HQ.out⟩


theorem fnExactSimplestBetween_walk (ta pa tb pb : Int) (w : World) (hT : DeBr w) : Calls Tryd.prog 9 #[.agg #[.int .i64 ta, .int .i64 pa], .agg #[.int .i64 tb, .int .i64 pb]] w fun e w' => e = .returned (.bool true) ∧ Below w.heap.size w w' := by
  by_cases ha : goodD ta pa = true
  · by_cases hb : goodD tb pb = true
    · obtain ⟨qa, rfl, a3, a1, a2, ca⟩ := good_nat ha
      obtain ⟨qb, rfl, b3, b1, b2, cb⟩ := good_nat hb
      by_cases hlt : sc ta qa < sc tb qb
      · have ho : ordD ta qa tb qb = -1 := by unfold ordD; rw [if_pos hlt]
        exact betweenLaw_core ta qa tb qb (finD (btw (sc ta qa) (sc tb qb))) w (fun W => Lib.hid (betweenS_lt ta tb qa qb W a1 a2 a3 b1 b2 b3 ha hb cb hlt))
          (fun W hw => Lib.hid (betweenI_lt ta tb qa qb W a1 a2 a3 b1 b2 b3 (hT.below hw) (fun V => by have := cmpI_yes ta tb qa qb V a1 a2 a3 b1 b2 b3 ha hb; rw [ho] at this; exact this)))
      · have ho : 0 ≤ ordD ta qa tb qb := by unfold ordD; rw [if_neg hlt]; split <;> omega
        exact betweenLaw_core ta qa tb qb (0, 0, false) w (fun W => Lib.hid (betweenS_ge ta tb qa qb W a1 a2 a3 b1 b2 b3 ha hb hlt))
          (fun W hw => Lib.hid (betweenI_ge ta qa tb qb (ordD ta qa tb qb) W ho (fun V => cmpI_yes ta tb qa qb V a1 a2 a3 b1 b2 b3 ha hb)))
    · have hb2 : goodD tb pb = false := by simpa using hb
      exact betweenLaw_core ta pa tb pb (0, 0, false) w (fun W => Lib.hid (betweenS_no2 _ _ _ _ _ ha hb2)) (fun W hw => Lib.hid (betweenI_no ta pa tb pb W (fun V => cmpI_no2 _ _ _ _ V ha hb2)))
  · have ha2 : goodD ta pa = false := by simpa using ha
    exact betweenLaw_core ta pa tb pb (0, 0, false) w (fun W => Lib.hid (betweenS_no1 _ _ _ _ _ ha2)) (fun W hw => Lib.hid (betweenI_no ta pa tb pb W (fun V => cmpI_no1 _ _ _ _ V ha2)))

end Go.Proofs.YtlblkmhiildgeaaDoor
