/- The reference's sums. -/
import Derived.Test.YtlblkmhiildgeaaDoorDyMake
namespace Go.Proofs.YtlblkmhiildgeaaDoor
open Go.RowKit

set_option maxHeartbeats 1000000 in
theorem l2Add_calls (ta tb : Int) (pa pb : Nat) (w : World) (a1 : -1000000000 ≤ ta) (a2 : ta ≤ 1000000000) (a3 : pa ≤ 24) (b1 : -1000000000 ≤ tb) (b2 : tb ≤ 1000000000) (b3 : pb ≤ 24) :
    Calls Tryd.prog 43 #[.agg #[.int .i64 ta, .int .i64 pa], .agg #[.int .i64 tb, .int .i64 pb]] w fun e w' => e = .returned (.agg #[.int .i64 ((mkD (sc ta pa + sc tb pb) 24).1), .int .i64 ((mkD (sc ta pa + sc tb pb) 24).2)]) ∧ Below w.heap.size w w' := by
  have s1 := sc_bd (p := pa) a1 a2
  have s2 := sc_bd (p := pb) b1 b2
  have s3 : IntKind.i64.wrap (sc ta pa + sc tb pb) = sc ta pa + sc tb pb := IntWalk.i64_in _ (by omega)
  have s4 : -4000000000000000000 ≤ sc ta pa + sc tb pb := by omega
  have s5 : sc ta pa + sc tb pb ≤ 4000000000000000000 := by omega
  have HM : ∀ W, Hid (Calls Tryd.prog 49 #[.int .i64 (sc ta pa + sc tb pb), .int .i64 24] W fun e w' => e = .returned (.agg #[.int .i64 ((mkD (sc ta pa + sc tb pb) 24).1), .int .i64 ((mkD (sc ta pa + sc tb pb) 24).2)]) ∧ Below W.heap.size W w') := fun W => Lib.hid (l2Make_calls _ 24 W s4 s5 (by omega))
  clear s1 s2 s4 s5
  have hS0 := trip_drew (trip_start w (.int .i64 ta) (.int .i64 pa) (.int .i64 tb) (.int .i64 pb) 25)
  generalize mkD (sc ta pa + sc tb pb) 24 = r at HM ⊢
  go_enter Tryd.func43, Tryd.ntmps43
  go_wp2_with fail
  go_region_held3 (fun w' : World => w'.cell? ⟨w.heap.size, 0, none⟩ = some (.int .i64 ta) ∧ w'.cell? ⟨w.heap.size, 1, none⟩ = some (.int .i64 pa) ∧ w'.cell? ⟨w.heap.size + 1, 0, none⟩ = some (.int .i64 tb) ∧ w'.cell? ⟨w.heap.size + 1, 1, none⟩ = some (.int .i64 pb) ∧ w'.cell? ⟨w.heap.size + 2, 0, none⟩ = some (curV w' (w.heap.size + 2) 0) ∧ w'.cell? ⟨w.heap.size + 2, 1, none⟩ = some (curV w' (w.heap.size + 2) 1) ∧ w'.frozen? ⟨w.heap.size + 2, 0, none⟩ = false ∧ w'.frozen? ⟨w.heap.size + 2, 1, none⟩ = false ∧ w.heap.size + 2 < w'.heap.size ∧ Below w.heap.size w w') (first | exact hS0 | (go_split_ands; exact ⟨‹_›, ‹_›, ‹_›, ‹_›, ‹_›, ‹_›, ‹_›, ‹_›, ‹_›, ‹_›⟩) | (go_split_ands; exact trip_next hb ⟨‹_›, ‹_›, ‹_›, ‹_›, ‹_›, ‹_›, ‹_›, ‹_›, ‹_›, ‹_›⟩) | (go_split_ands; exact trip_set ⟨‹_›, ‹_›, ‹_›, ‹_›, ‹_›, ‹_›, ‹_›, ‹_›, ‹_›, ‹_›⟩)) (first | (go_at_call 68; refine (scaled_calls _ _ _ ?_ ?_ ?_).mono ?_; (omega); (omega); (omega); rintro e w1 ⟨rfl, hb⟩) | (go_at_call 49; refine (HM _).out.mono ?_; rintro e w1 ⟨rfl, hb⟩))
  rename_i hH
  obtain ⟨k0, k1, k2⟩ := trip_done (w := w) (W := w1) (x := .int .i64 r.1) (y := .int .i64 r.2) hH
  clear hH
  have k2 := Lib.hid k2
  go_wp2_with fail
  refine bodyPost_ret (v := .agg #[.int .i64 r.1, .int .i64 r.2]) (by simp [*, results, Tryd.results43, go_sem]) rfl ⟨rfl, k2.out⟩

end Go.Proofs.YtlblkmhiildgeaaDoor
