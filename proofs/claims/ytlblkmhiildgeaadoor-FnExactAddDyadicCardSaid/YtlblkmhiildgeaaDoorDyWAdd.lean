/- The walk of laws.FnExactAddDyadic. -/
import Derived.Test.YtlblkmhiildgeaaDoorDySum
import Derived.Deep.DeepCutAuto
namespace Go.Proofs.YtlblkmhiildgeaaDoor
open Go.RowKit
set_option linter.unusedVariables false

set_option maxHeartbeats 4000000 in
theorem addLaw_core (ta pa tb pb : Int) (r : Int × Int × Bool) (w : World)
    (HM : ∀ W, Hid (Calls Tryd.prog 14 #[.agg #[.int .i64 ta, .int .i64 pa], .agg #[.int .i64 tb, .int .i64 pb]] W fun e w' => e = .returned (.tuple #[.agg #[.int .i64 r.1, .int .i64 r.2.1], .bool r.2.2]) ∧ Below W.heap.size W w'))
    (HI : ∀ W, Below w.heap.size w W → Hid (Calls Tryd.prog 13 #[.agg #[.int .i64 ta, .int .i64 pa], .agg #[.int .i64 tb, .int .i64 pb]] W fun e w' => e = .returned (.tuple #[.agg #[.int .i64 r.1, .int .i64 r.2.1], .bool r.2.2]) ∧ Below W.heap.size W w')) :
    Calls Tryd.prog 7 #[.agg #[.int .i64 ta, .int .i64 pa], .agg #[.int .i64 tb, .int .i64 pb]] w fun e w' => e = .returned (.bool true) ∧ Below w.heap.size w w' := by
  have hS0 := pair_drew (pair_start w (.int .i64 ta) (.int .i64 pa) (.int .i64 tb) (.int .i64 pb) 46)
  go_enter Tryd.func7, Tryd.ntmps7
  go_upto_region 1 with fail
  go_cut [5, 6] (fun s5 s6 wx => ∃ g : Nat, s5 = .pointer (some ⟨g, 0, none⟩) ∧ s6 = .bool r.2.2 ∧ QuadS w (.int .i64 ta) (.int .i64 pa) (.int .i64 tb) (.int .i64 pb) g (.int .i64 r.1) (.int .i64 r.2.1) wx)
  case first =>
    go_region_held3 (fun w' : World => w'.cell? ⟨w.heap.size, 0, none⟩ = some (.int .i64 ta) ∧ w'.cell? ⟨w.heap.size, 1, none⟩ = some (.int .i64 pa) ∧ w'.cell? ⟨w.heap.size + 1, 0, none⟩ = some (.int .i64 tb) ∧ w'.cell? ⟨w.heap.size + 1, 1, none⟩ = some (.int .i64 pb) ∧ w.heap.size + 1 < w'.heap.size ∧ Below w.heap.size w w') (first | exact hS0 | (go_split_ands; exact ⟨‹_›, ‹_›, ‹_›, ‹_›, ‹_›, ‹_›⟩) | (go_split_ands; exact pair_next hbc ⟨‹_›, ‹_›, ‹_›, ‹_›, ‹_›, ‹_›⟩) | (go_split_ands; exact pair_next hbb ⟨‹_›, ‹_›, ‹_›, ‹_›, ‹_›, ‹_›⟩) | (go_split_ands; exact pair_next hba ⟨‹_›, ‹_›, ‹_›, ‹_›, ‹_›, ‹_›⟩) | (go_split_ands; exact pair_alloc ⟨‹_›, ‹_›, ‹_›, ‹_›, ‹_›, ‹_›⟩) | (go_split_ands; refine pair_swap ?_ ⟨‹_›, ‹_›, ‹_›, ‹_›, ‹_›, ‹_›⟩; (omega)) | (go_split_ands; refine pair_far ?_ ⟨‹_›, ‹_›, ‹_›, ‹_›, ‹_›, ‹_›⟩; (omega))) (first | (go_at_call 36; (with_reducible refine (toD_calls ta pa _).mono ?_); rintro e wa ⟨rfl, hba⟩; have hr := bcell hba; have hz := hba.size; (try simp at hz)) | (go_at_call 36; (with_reducible refine (toD_calls tb pb _).mono ?_); rintro e wb ⟨rfl, hbb⟩; have hr := bcell hbb; have hz := hbb.size; (try simp at hz); (try (have hab := Below.trans hba (Below.mono hbb hba.size); have hr := bcell hab))) | (go_at_call 14; (with_reducible refine ((HM _).out).mono ?_); rintro e wc ⟨rfl, hbc⟩; have hr := bcell hbc; have hz := hbc.size; (try simp at hz); (try (have hbbc := Below.trans hbb (Below.mono hbc hbb.size); have hr := bcell hbbc)); (try (have habc := Below.trans hab (Below.mono hbc hab.size); have hr := bcell habc))))
    all_goals
      rename_i hH
      go_wp2_with fail
      go_meet
      first
        | exact ⟨_, rfl, rfl, quad_start _ _ _ hH⟩
        | exact ⟨_, rfl, rfl, quad_done (u0 := .int .i64 0) (u1 := .int .i64 0) (by first | omega | (simp; omega)) (by simp [*, go_sem]) (by simp [*, go_sem]) hH⟩
  case rest =>
    obtain ⟨g, rfl, rfl, hQ⟩ := hcut
    have hS0 := quad_drew hQ
    have hz1 : w.heap.size + 1 < wc.heap.size := hQ.2.2.2.2.2.2.1
    have hz2 : g < wc.heap.size := hQ.2.2.2.2.2.2.2.1
    clear hQ
    go_upto_region 2 with fail
    go_cut [7, 8] (fun s7 s8 wx => ∃ g2 : Nat, s7 = .pointer (some ⟨g2, 0, none⟩) ∧ s8 = .bool r.2.2 ∧ QuadS w (.int .i64 ta) (.int .i64 pa) (.int .i64 tb) (.int .i64 pb) g (.int .i64 r.1) (.int .i64 r.2.1) wx ∧ wx.cell? ⟨g2, 0, none⟩ = some (.int .i64 r.1) ∧ wx.cell? ⟨g2, 1, none⟩ = some (.int .i64 r.2.1))
    case first =>
      go_region_held3 (fun w' : World => w'.cell? ⟨w.heap.size, 0, none⟩ = some (.int .i64 ta) ∧ w'.cell? ⟨w.heap.size, 1, none⟩ = some (.int .i64 pa) ∧ w'.cell? ⟨w.heap.size + 1, 0, none⟩ = some (.int .i64 tb) ∧ w'.cell? ⟨w.heap.size + 1, 1, none⟩ = some (.int .i64 pb) ∧ w'.cell? ⟨g, 0, none⟩ = some (.int .i64 r.1) ∧ w'.cell? ⟨g, 1, none⟩ = some (.int .i64 r.2.1) ∧ w.heap.size + 1 < w'.heap.size ∧ g < w'.heap.size ∧ Below w.heap.size w w') (first | exact hS0 | (go_split_ands; exact ⟨‹_›, ‹_›, ‹_›, ‹_›, ‹_›, ‹_›, ‹_›, ‹_›, ‹_›⟩) | (go_split_ands; exact quad_next hbc ⟨‹_›, ‹_›, ‹_›, ‹_›, ‹_›, ‹_›, ‹_›, ‹_›, ‹_›⟩) | (go_split_ands; exact quad_next hbb ⟨‹_›, ‹_›, ‹_›, ‹_›, ‹_›, ‹_›, ‹_›, ‹_›, ‹_›⟩) | (go_split_ands; exact quad_next hba ⟨‹_›, ‹_›, ‹_›, ‹_›, ‹_›, ‹_›, ‹_›, ‹_›, ‹_›⟩) | (go_split_ands; exact quad_alloc ⟨‹_›, ‹_›, ‹_›, ‹_›, ‹_›, ‹_›, ‹_›, ‹_›, ‹_›⟩) | (go_split_ands; refine quad_swap ?_ ?_ ⟨‹_›, ‹_›, ‹_›, ‹_›, ‹_›, ‹_›, ‹_›, ‹_›, ‹_›⟩; (omega); (omega)) | (go_split_ands; refine quad_far ?_ ?_ ⟨‹_›, ‹_›, ‹_›, ‹_›, ‹_›, ‹_›, ‹_›, ‹_›, ‹_›⟩; (omega); (omega))) (first | (go_at_call 36; (with_reducible refine (toD_calls ta pa _).mono ?_); rintro e wa ⟨rfl, hba⟩; have hr := bcell hba; have hz := hba.size; (try simp at hz)) | (go_at_call 36; (with_reducible refine (toD_calls tb pb _).mono ?_); rintro e wb ⟨rfl, hbb⟩; have hr := bcell hbb; have hz := hbb.size; (try simp at hz); (try (have hab := Below.trans hba (Below.mono hbb hba.size); have hr := bcell hab))) | (go_at_call 13; (with_reducible refine ((HI _ ?_).out).mono ?_); (go_split_ands; assumption); rintro e wd ⟨rfl, hbc⟩; have hr := bcell hbc; have hz := hbc.size; (try simp at hz); (try (have hbbc := Below.trans hbb (Below.mono hbc hbb.size); have hr := bcell hbbc)); (try (have habc := Below.trans hab (Below.mono hbc hab.size); have hr := bcell habc))))
      all_goals
        rename_i hH
        go_wp2_with fail
        go_meet
        refine ⟨_, rfl, rfl, hH, ?_, ?_⟩
        all_goals
          clear hH
          simp [*, go_sem]
    case rest =>
      obtain ⟨g2, rfl, rfl, hQ, k0, k1⟩ := hcut
      obtain ⟨_, _, _, _, j0, j1, _, _, hB⟩ := hQ
      have hl := hB.size
      have HB := Lib.hid hB
      clear hB hS0 hz1 hz2
      go_wp2_with fail
      refine (eqD_calls _ _ _).mono ?_
      rintro e w3 ⟨rfl, hb⟩
      have HQ := Lib.hid (HB.out.trans (hb.mono hl))
      clear hb
      go_wp2_with fail
      go_ret
      exact ⟨rfl, HQ.out⟩

theorem fnExactAddDyadic_walk (ta pa tb pb : Int) (w : World) (hT : DeBr w) : Calls Tryd.prog 7 #[.agg #[.int .i64 ta, .int .i64 pa], .agg #[.int .i64 tb, .int .i64 pb]] w fun e w' => e = .returned (.bool true) ∧ Below w.heap.size w w' := by
  by_cases ha : goodD ta pa = true
  · by_cases hb : goodD tb pb = true
    · obtain ⟨qa, rfl, a3, a1, a2, _⟩ := good_nat ha
      obtain ⟨qb, rfl, b3, b1, b2, _⟩ := good_nat hb
      exact addLaw_core ta qa tb qb (finD (mkD (sc ta qa + sc tb qb) 24)) w (fun W => Lib.hid (addS_yes ta tb qa qb W a1 a2 a3 b1 b2 b3 ha hb)) (fun W hw => Lib.hid (addI_yes ta tb qa qb W (hT.below hw) a1 a2 a3 b1 b2 b3 ha hb))
    · have hb2 : goodD tb pb = false := by simpa using hb
      exact addLaw_core ta pa tb pb (0, 0, false) w (fun W => Lib.hid (addS_no2 _ _ _ _ _ ha hb2)) (fun W hw => Lib.hid (addI_no2 _ _ _ _ _ ha hb2))
  · have ha2 : goodD ta pa = false := by simpa using ha
    exact addLaw_core ta pa tb pb (0, 0, false) w (fun W => Lib.hid (addS_no1 _ _ _ _ _ ha2)) (fun W hw => Lib.hid (addI_no1 _ _ _ _ _ ha2))

end Go.Proofs.YtlblkmhiildgeaaDoor
