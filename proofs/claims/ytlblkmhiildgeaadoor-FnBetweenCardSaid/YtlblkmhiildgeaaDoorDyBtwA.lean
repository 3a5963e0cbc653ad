/- The simplest number between two, by the reference, wherever they lie; the walk of its law. -/
import Derived.Test.YtlblkmhiildgeaaDoorDyBtwS
import Derived.Test.YtlblkmhiildgeaaDoorDyBtwI
import Derived.Deep.DeepCutAuto
namespace Go.Proofs.YtlblkmhiildgeaaDoor
open Go.RowKit
set_option linter.unusedVariables false

theorem btwS_mid (ta tb : Int) (pa pb : Nat) (w : World) (a1 : -1000000 ≤ ta) (a2 : ta ≤ 1000000) (a3 : pa ≤ 16) (b1 : -1000000 ≤ tb) (b2 : tb ≤ 1000000) (b3 : pb ≤ 16) (hA : sc ta pa < 0) (hB : 0 < sc tb pb) : Calls Tryd.prog 51 #[.agg #[.int .i64 ta, .int .i64 pa], .agg #[.int .i64 tb, .int .i64 pb]] w fun e w' => e = .returned (.agg #[.int .i64 0, .int .i64 0]) ∧ Below w.heap.size w w' := by
  have H1 : ∀ W, Hid (Calls Tryd.prog 45 #[.agg #[.int .i64 tb, .int .i64 pb], .agg #[.int .i64 0, .int .i64 0]] W fun e w' => e = .returned (.bool false) ∧ Below W.heap.size W w') := fun W => Lib.hid (lessB tb 0 pb 0 W (by omega) (by omega) (by omega) (by omega) (by omega) (by omega) false (by rw [sc_zero]; unfold ltB; rw [decide_eq_false_iff_not]; omega))
  have H2 : ∀ W, Hid (Calls Tryd.prog 45 #[.agg #[.int .i64 ta, .int .i64 pa], .agg #[.int .i64 0, .int .i64 0]] W fun e w' => e = .returned (.bool true) ∧ Below W.heap.size W w') := fun W => Lib.hid (lessB ta 0 pa 0 W (by omega) (by omega) (by omega) (by omega) (by omega) (by omega) true (by rw [sc_zero]; unfold ltB; rw [decide_eq_true_iff]; omega))
  have htb : tb ≠ 0 := by
    rintro rfl
    have : sc 0 pb = 0 := by unfold sc; simp
    omega
  have htb2 : (tb == 0) = false := by rw [beq_eq_false_iff_ne]; exact htb
  clear htb hA hB a1 a2 a3 b1 b2 b3
  have hP0 := trip_start w (.int .i64 ta) (.int .i64 pa) (.int .i64 tb) (.int .i64 pb) 25
  go_enter Tryd.func51, Tryd.ntmps51
  go_wp2_with fail
  refine ((H1 _).out).mono ?_
  rintro e w1 ⟨rfl, hb⟩
  have hP1 := trip_next hb hP0
  have hQ := hP1
  obtain ⟨c10, c11, c12, c13, c14, c15, c16, c17, c18, HB1⟩ := hQ
  clear hb HB1
  go_wp2_with fail
  refine ((H2 _).out).mono ?_
  rintro e w2 ⟨rfl, hb⟩
  have hP2 := trip_next hb hP1
  have hQ := hP2
  obtain ⟨c20, c21, c22, c23, c24, c25, c26, c27, c28, HB2⟩ := hQ
  clear hb HB2
  go_wp2_with fail
  refine bodyPost_ret (v := .agg #[.int .i64 0, .int .i64 0]) (by simp [*, results, Tryd.results51, go_sem]) rfl ⟨rfl, ?_⟩
  exact (hP2.2.2.2.2.2.2.2.2.2.setCell (Nat.le_add_right w.heap.size 2) _).setCell (Nat.le_add_right w.heap.size 2) _

set_option maxHeartbeats 1000000 in
theorem btwS_neg (ta tb : Int) (pa pb : Nat) (w : World) (a1 : -1000000 ≤ ta) (a2 : ta ≤ 1000000) (a3 : pa ≤ 16) (b1 : -1000000 ≤ tb) (b2 : tb ≤ 1000000) (b3 : pb ≤ 16) (hAB : sc ta pa < sc tb pb) (hB : sc tb pb < 0) : Calls Tryd.prog 51 #[.agg #[.int .i64 ta, .int .i64 pa], .agg #[.int .i64 tb, .int .i64 pb]] w fun e w' => e = .returned (.agg #[.int .i64 ((btw (sc ta pa) (sc tb pb)).1), .int .i64 ((btw (sc ta pa) (sc tb pb)).2)]) ∧ Below w.heap.size w w' := by
  have H1 : ∀ W, Hid (Calls Tryd.prog 45 #[.agg #[.int .i64 tb, .int .i64 pb], .agg #[.int .i64 0, .int .i64 0]] W fun e w' => e = .returned (.bool true) ∧ Below W.heap.size W w') := fun W => Lib.hid (lessB tb 0 pb 0 W (by omega) (by omega) (by omega) (by omega) (by omega) (by omega) true (by rw [sc_zero]; unfold ltB; rw [decide_eq_true_iff]; omega))
  have HB : ∀ W, Hid (Calls Tryd.prog 51 #[.agg #[.int .i64 (-tb), .int .i64 pb], .agg #[.int .i64 (-ta), .int .i64 pa]] W fun e w' => e = .returned (.agg #[.int .i64 ((btw (-sc tb pb) (-sc ta pa)).1), .int .i64 ((btw (-sc tb pb) (-sc ta pa)).2)]) ∧ Below W.heap.size W w') := fun W => by
    have := btwS_pos (-tb) (-ta) pb pa W (by omega) (by omega) b3 (by omega) (by omega) a3 (by rw [sc_neg]; omega) (by rw [sc_neg, sc_neg]; omega)
    rw [sc_neg, sc_neg] at this
    exact Lib.hid this
  have hbd := btw_bd (A := -sc tb pb) (B := -sc ta pa) (M := 16777216000000) (by have := sc_bd (p := pb) b1 b2; omega) (by have := sc_bd (p := pb) b1 b2; omega) (by have := sc_bd (p := pa) a1 a2; omega) (by have := sc_bd (p := pa) a1 a2; omega)
  have hneg := btw_neg (sc ta pa) (sc tb pb)
  have g1 : (btw (sc ta pa) (sc tb pb)).1 = -(btw (-sc tb pb) (-sc ta pa)).1 := by rw [hneg]; show _ = - -_; omega
  have g2 : (btw (sc ta pa) (sc tb pb)).2 = (btw (-sc tb pb) (-sc ta pa)).2 := by rw [hneg]
  rw [g1, g2]
  clear g1 g2 hneg hAB
  generalize (btw (-sc tb pb) (-sc ta pa)) = r at HB hbd ⊢
  obtain ⟨r1, r2⟩ := hbd
  have hP0 := trip_start w (.int .i64 ta) (.int .i64 pa) (.int .i64 tb) (.int .i64 pb) 25
  go_enter Tryd.func51, Tryd.ntmps51
  go_wp2_with fail
  refine ((H1 _).out).mono ?_
  rintro e w1 ⟨rfl, hb⟩
  have hP1 := trip_next hb hP0
  have hQ := hP1
  obtain ⟨c10, c11, c12, c13, c14, c15, c16, c17, c18, HB1⟩ := hQ
  clear hb HB1
  go_wp2_with fail
  have hS0 := trip_drew hP1
  go_region_held3 (fun w' : World => w'.cell? ⟨w.heap.size, 0, none⟩ = some (.int .i64 ta) ∧ w'.cell? ⟨w.heap.size, 1, none⟩ = some (.int .i64 pa) ∧ w'.cell? ⟨w.heap.size + 1, 0, none⟩ = some (.int .i64 tb) ∧ w'.cell? ⟨w.heap.size + 1, 1, none⟩ = some (.int .i64 pb) ∧ w'.cell? ⟨w.heap.size + 2, 0, none⟩ = some (curV w' (w.heap.size + 2) 0) ∧ w'.cell? ⟨w.heap.size + 2, 1, none⟩ = some (curV w' (w.heap.size + 2) 1) ∧ w'.frozen? ⟨w.heap.size + 2, 0, none⟩ = false ∧ w'.frozen? ⟨w.heap.size + 2, 1, none⟩ = false ∧ w.heap.size + 2 < w'.heap.size ∧ Below w.heap.size w w') (first | exact hS0 | (go_split_ands; exact ⟨‹_›, ‹_›, ‹_›, ‹_›, ‹_›, ‹_›, ‹_›, ‹_›, ‹_›, ‹_›⟩) | (go_split_ands; exact trip_next hb ⟨‹_›, ‹_›, ‹_›, ‹_›, ‹_›, ‹_›, ‹_›, ‹_›, ‹_›, ‹_›⟩) | (go_split_ands; exact trip_set ⟨‹_›, ‹_›, ‹_›, ‹_›, ‹_›, ‹_›, ‹_›, ‹_›, ‹_›, ‹_›⟩)) (first | (go_at_call 70; refine (l2Neg_calls _ _ _ ?_ ?_).mono ?_; (omega); (omega); rintro e w1 ⟨rfl, hb⟩) | (go_at_call 51; refine (HB _).out.mono ?_; rintro e w1 ⟨rfl, hb⟩))
  rename_i hH
  obtain ⟨k0, k1, k2⟩ := trip_done (w := w) (W := w1) (x := .int .i64 (-r.1)) (y := .int .i64 r.2) hH
  clear hH
  have k2 := Lib.hid k2
  go_wp2_with fail
  refine bodyPost_ret (v := .agg #[.int .i64 (-r.1), .int .i64 r.2]) (by simp [*, results, Tryd.results51, go_sem]) rfl ⟨rfl, k2.out⟩

set_option maxHeartbeats 1000000 in
theorem btwS_zero (ta : Int) (pa : Nat) (w : World) (a1 : -1000000 ≤ ta) (a2 : ta ≤ 1000000) (a3 : pa ≤ 16) (hA : sc ta pa < 0) : Calls Tryd.prog 51 #[.agg #[.int .i64 ta, .int .i64 pa], .agg #[.int .i64 0, .int .i64 0]] w fun e w' => e = .returned (.agg #[.int .i64 ((btw (sc ta pa) (sc 0 0)).1), .int .i64 ((btw (sc ta pa) (sc 0 0)).2)]) ∧ Below w.heap.size w w' := by
  have H1 : ∀ W, Hid (Calls Tryd.prog 45 #[.agg #[.int .i64 0, .int .i64 0], .agg #[.int .i64 0, .int .i64 0]] W fun e w' => e = .returned (.bool false) ∧ Below W.heap.size W w') := fun W => Lib.hid (lessB 0 0 0 0 W (by omega) (by omega) (by omega) (by omega) (by omega) (by omega) false (by rw [sc_zero]; rfl))
  have HB : ∀ W, Hid (Calls Tryd.prog 51 #[.agg #[.int .i64 0, .int .i64 0], .agg #[.int .i64 (-ta), .int .i64 pa]] W fun e w' => e = .returned (.agg #[.int .i64 ((btw (sc 0 0) (sc (-ta) pa)).1), .int .i64 ((btw (sc 0 0) (sc (-ta) pa)).2)]) ∧ Below W.heap.size W w') := fun W => Lib.hid (btwS_pos 0 (-ta) 0 pa W (by omega) (by omega) (by omega) (by omega) (by omega) a3 (by rw [sc_zero]; omega) (by rw [sc_zero, sc_neg]; omega))
  have hbd := btw_bd (A := sc 0 0) (B := sc (-ta) pa) (M := 16777216000000) (by rw [sc_zero]; omega) (by rw [sc_zero]; omega) (by have := sc_bd (p := pa) a1 a2; rw [sc_neg]; omega) (by have := sc_bd (p := pa) a1 a2; rw [sc_neg]; omega)
  have hneg := btw_neg (sc ta pa) (sc 0 0)
  rw [show -sc 0 0 = sc 0 0 by rw [sc_zero]; rfl, ← sc_neg] at hneg
  have g1 : (btw (sc ta pa) (sc 0 0)).1 = -(btw (sc 0 0) (sc (-ta) pa)).1 := by rw [hneg]; show _ = - -_; omega
  have g2 : (btw (sc ta pa) (sc 0 0)).2 = (btw (sc 0 0) (sc (-ta) pa)).2 := by rw [hneg]
  rw [g1, g2]
  clear g1 g2 hneg hA
  generalize (btw (sc 0 0) (sc (-ta) pa)) = r at HB hbd ⊢
  obtain ⟨r1, r2⟩ := hbd
  have hP0 := trip_start w (.int .i64 ta) (.int .i64 pa) (.int .i64 0) (.int .i64 0) 25
  go_enter Tryd.func51, Tryd.ntmps51
  go_wp2_with fail
  refine ((H1 _).out).mono ?_
  rintro e w1 ⟨rfl, hb⟩
  have hP1 := trip_next hb hP0
  have hQ := hP1
  obtain ⟨c10, c11, c12, c13, c14, c15, c16, c17, c18, HB1⟩ := hQ
  clear hb HB1
  go_wp2_with fail
  have hS0 := trip_drew hP1
  go_region_held3 (fun w' : World => w'.cell? ⟨w.heap.size, 0, none⟩ = some (.int .i64 ta) ∧ w'.cell? ⟨w.heap.size, 1, none⟩ = some (.int .i64 pa) ∧ w'.cell? ⟨w.heap.size + 1, 0, none⟩ = some (.int .i64 0) ∧ w'.cell? ⟨w.heap.size + 1, 1, none⟩ = some (.int .i64 0) ∧ w'.cell? ⟨w.heap.size + 2, 0, none⟩ = some (curV w' (w.heap.size + 2) 0) ∧ w'.cell? ⟨w.heap.size + 2, 1, none⟩ = some (curV w' (w.heap.size + 2) 1) ∧ w'.frozen? ⟨w.heap.size + 2, 0, none⟩ = false ∧ w'.frozen? ⟨w.heap.size + 2, 1, none⟩ = false ∧ w.heap.size + 2 < w'.heap.size ∧ Below w.heap.size w w') (first | exact hS0 | (go_split_ands; exact ⟨‹_›, ‹_›, ‹_›, ‹_›, ‹_›, ‹_›, ‹_›, ‹_›, ‹_›, ‹_›⟩) | (go_split_ands; exact trip_next hb ⟨‹_›, ‹_›, ‹_›, ‹_›, ‹_›, ‹_›, ‹_›, ‹_›, ‹_›, ‹_›⟩) | (go_split_ands; exact trip_set ⟨‹_›, ‹_›, ‹_›, ‹_›, ‹_›, ‹_›, ‹_›, ‹_›, ‹_›, ‹_›⟩)) (first | (go_at_call 70; refine (l2Neg_calls _ _ _ ?_ ?_).mono ?_; (omega); (omega); rintro e w1 ⟨rfl, hb⟩) | (go_at_call 51; refine (HB _).out.mono ?_; rintro e w1 ⟨rfl, hb⟩))
  rename_i hH
  obtain ⟨k0, k1, k2⟩ := trip_done (w := w) (W := w1) (x := .int .i64 (-r.1)) (y := .int .i64 r.2) hH
  clear hH
  have k2 := Lib.hid k2
  go_wp2_with fail
  refine bodyPost_ret (v := .agg #[.int .i64 (-r.1), .int .i64 r.2]) (by simp [*, results, Tryd.results51, go_sem]) rfl ⟨rfl, k2.out⟩

theorem btwS_all (ta tb : Int) (pa pb : Nat) (w : World) (a1 : -1000000 ≤ ta) (a2 : ta ≤ 1000000) (a3 : pa ≤ 16) (b1 : -1000000 ≤ tb) (b2 : tb ≤ 1000000) (b3 : pb ≤ 16) (cb : pb = 0 ∨ tb % 2 ≠ 0) (hAB : sc ta pa < sc tb pb) : Calls Tryd.prog 51 #[.agg #[.int .i64 ta, .int .i64 pa], .agg #[.int .i64 tb, .int .i64 pb]] w fun e w' => e = .returned (.agg #[.int .i64 ((btw (sc ta pa) (sc tb pb)).1), .int .i64 ((btw (sc ta pa) (sc tb pb)).2)]) ∧ Below w.heap.size w w' := by
  by_cases hA : 0 ≤ sc ta pa
  · exact btwS_pos ta tb pa pb w a1 a2 a3 b1 b2 b3 hA hAB
  · rcases Int.lt_trichotomy (sc tb pb) 0 with h | h | h
    · exact btwS_neg ta tb pa pb w a1 a2 a3 b1 b2 b3 hAB h
    · obtain ⟨h1, h2⟩ := sc_inj (by omega : pb ≤ 24) (by omega : 0 ≤ 24) cb (Or.inl rfl) (h.trans sc_zero.symm)
      subst h1
      subst h2
      exact btwS_zero ta pa w a1 a2 a3 (by omega)
    · rw [btw_mid (by omega) h]
      exact btwS_mid ta tb pa pb w a1 a2 a3 b1 b2 b3 (by omega) h

end Go.Proofs.YtlblkmhiildgeaaDoor
