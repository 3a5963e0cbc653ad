/- The reference's sum of a number that may not be good. -/
import Derived.Test.YtlblkmhiildgeaaDoorDyAdd
namespace Go.Proofs.YtlblkmhiildgeaaDoor
open Go.RowKit
set_option linter.unusedVariables false

theorem scaledM (t : Int) (w : World) (h1 : -2000000 ≤ t) (h2 : t ≤ 2000000) : Calls Tryd.prog 68 #[.agg #[.int .i64 t, .int .i64 (-1)]] w fun e w' => e = .returned (.int .i64 (t * 33554432)) ∧ Below w.heap.size w w' := by
  have a5 : IntKind.i64.wrap (t * 33554432) = t * 33554432 := IntWalk.i64_in _ (by omega)
  go_enter Tryd.func68, Tryd.ntmps68
  go_wp2
  go_ret
  exact ⟨rfl, (Below.refl _ _).alloc (Nat.le_refl _) _⟩

set_option maxHeartbeats 1000000 in
theorem l2Add_any (ta tb pa pb A B : Int) (w : World) (h1 : -200000000000000 ≤ A) (h2 : A ≤ 200000000000000) (h3 : -200000000000000 ≤ B) (h4 : B ≤ 200000000000000)
    (HSA : ∀ W, Hid (Calls Tryd.prog 68 #[.agg #[.int .i64 ta, .int .i64 pa]] W fun e w' => e = .returned (.int .i64 A) ∧ Below W.heap.size W w')) (HSB : ∀ W, Hid (Calls Tryd.prog 68 #[.agg #[.int .i64 tb, .int .i64 pb]] W fun e w' => e = .returned (.int .i64 B) ∧ Below W.heap.size W w')) :
    Calls Tryd.prog 43 #[.agg #[.int .i64 ta, .int .i64 pa], .agg #[.int .i64 tb, .int .i64 pb]] w fun e w' => (∃ t p : Int, e = .returned (.agg #[.int .i64 t, .int .i64 p])) ∧ Below w.heap.size w w' := by
  have s3 : IntKind.i64.wrap (A + B) = A + B := IntWalk.i64_in _ (by omega)
  have HM : ∀ W, Hid (Calls Tryd.prog 49 #[.int .i64 (A + B), .int .i64 24] W fun e w' => e = .returned (.agg #[.int .i64 ((mkD (A + B) 24).1), .int .i64 ((mkD (A + B) 24).2)]) ∧ Below W.heap.size W w') := fun W => Lib.hid (l2Make_calls _ 24 W (by omega) (by omega) (by omega))
  clear h1 h2 h3 h4
  have hS0 := trip_drew (trip_start w (.int .i64 ta) (.int .i64 pa) (.int .i64 tb) (.int .i64 pb) 25)
  generalize mkD (A + B) 24 = r at HM ⊢
  go_enter Tryd.func43, Tryd.ntmps43
  go_wp2_with fail
  go_region_held3 (fun w' : World => w'.cell? ⟨w.heap.size, 0, none⟩ = some (.int .i64 ta) ∧ w'.cell? ⟨w.heap.size, 1, none⟩ = some (.int .i64 pa) ∧ w'.cell? ⟨w.heap.size + 1, 0, none⟩ = some (.int .i64 tb) ∧ w'.cell? ⟨w.heap.size + 1, 1, none⟩ = some (.int .i64 pb) ∧ w'.cell? ⟨w.heap.size + 2, 0, none⟩ = some (curV w' (w.heap.size + 2) 0) ∧ w'.cell? ⟨w.heap.size + 2, 1, none⟩ = some (curV w' (w.heap.size + 2) 1) ∧ w'.frozen? ⟨w.heap.size + 2, 0, none⟩ = false ∧ w'.frozen? ⟨w.heap.size + 2, 1, none⟩ = false ∧ w.heap.size + 2 < w'.heap.size ∧ Below w.heap.size w w') (first | exact hS0 | (go_split_ands; exact ⟨‹_›, ‹_›, ‹_›, ‹_›, ‹_›, ‹_›, ‹_›, ‹_›, ‹_›, ‹_›⟩) | (go_split_ands; exact trip_next hb ⟨‹_›, ‹_›, ‹_›, ‹_›, ‹_›, ‹_›, ‹_›, ‹_›, ‹_›, ‹_›⟩) | (go_split_ands; exact trip_set ⟨‹_›, ‹_›, ‹_›, ‹_›, ‹_›, ‹_›, ‹_›, ‹_›, ‹_›, ‹_›⟩)) (first | (go_at_call 68; (with_reducible refine (HSA _).out.mono ?_); rintro e w1 ⟨rfl, hb⟩) | (go_at_call 68; (with_reducible refine (HSB _).out.mono ?_); rintro e w1 ⟨rfl, hb⟩) | (go_at_call 49; refine (HM _).out.mono ?_; rintro e w1 ⟨rfl, hb⟩))
  rename_i hH
  obtain ⟨k0, k1, k2⟩ := trip_done (w := w) (W := w1) (x := .int .i64 r.1) (y := .int .i64 r.2) hH
  clear hH
  have k2 := Lib.hid k2
  go_wp2_with fail
  refine bodyPost_ret (v := .agg #[.int .i64 r.1, .int .i64 r.2]) (by simp [*, results, Tryd.results43, go_sem]) rfl ⟨⟨r.1, r.2, rfl⟩, k2.out⟩

theorem l2Add_wide (ta tb pa : Int) (pb : Nat) (w : World) (a1 : -2000000 ≤ ta) (a2 : ta ≤ 2000000) (a3 : -1 ≤ pa) (a4 : pa ≤ 20) (b1 : -2000000 ≤ tb) (b2 : tb ≤ 2000000) (b3 : pb ≤ 24) :
    Calls Tryd.prog 43 #[.agg #[.int .i64 ta, .int .i64 pa], .agg #[.int .i64 tb, .int .i64 pb]] w fun e w' => (∃ t p : Int, e = .returned (.agg #[.int .i64 t, .int .i64 p])) ∧ Below w.heap.size w w' := by
  have s2 := sc_bd (t := tb) (p := pb) (M := 2000000) (by omega) (by omega)
  have HB := fun W => Lib.hid (scaled_calls tb pb W (by omega) (by omega) b3)
  by_cases h : pa = -1
  · subst h
    exact l2Add_any ta tb (-1) pb _ _ w (by omega) (by omega) (by omega) (by omega) (fun W => Lib.hid (scaledM ta W a1 a2)) HB
  · obtain ⟨q, rfl⟩ : ∃ q : Nat, pa = q := ⟨pa.toNat, by omega⟩
    have s1 := sc_bd (t := ta) (p := q) (M := 2000000) (by omega) (by omega)
    exact l2Add_any ta tb q pb _ _ w (by omega) (by omega) (by omega) (by omega) (fun W => Lib.hid (scaled_calls ta q W (by omega) (by omega) (by omega))) HB

end Go.Proofs.YtlblkmhiildgeaaDoor
