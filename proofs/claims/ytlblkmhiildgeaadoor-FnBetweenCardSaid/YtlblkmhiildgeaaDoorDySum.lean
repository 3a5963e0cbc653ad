/- Sums by both programs. -/
import Derived.Test.YtlblkmhiildgeaaDoorDyArith
namespace Go.Proofs.YtlblkmhiildgeaaDoor
open Go.RowKit
set_option linter.unusedVariables false

/-- a number's top at a level -/
def lev (t : Int) (p m : Nat) : Int := t * 2 ^ (m - p)

theorem addI_no1 (ta pa tb pb : Int) (w : World) (ha : goodD ta pa = false) : Calls Tryd.prog 13 #[.agg #[.int .i64 ta, .int .i64 pa], .agg #[.int .i64 tb, .int .i64 pb]] w fun e w' => e = .returned (.tuple #[.agg #[.int .i64 0, .int .i64 0], .bool false]) ∧ Below w.heap.size w w' := by
  have HA := Lib.hid ha
  clear ha
  have hP0 := trip_start w (.int .i64 ta) (.int .i64 pa) (.int .i64 tb) (.int .i64 pb) 25
  go_enter Tryd.func13, Tryd.ntmps13
  go_wp2_with fail
  refine ((goodI_calls _ _ _).mono fun e w' h => (HA.out ▸ h : _ ∧ _)).mono ?_
  rintro e w1 ⟨rfl, hb⟩
  have hP1 := trip_next hb hP0
  have hQ := hP1
  obtain ⟨c10, c11, c12, c13, c14, c15, c16, c17, c18, HB1⟩ := hQ
  clear hb HB1
  go_wp2_with fail
  refine bodyPost_ret (v := .tuple #[.agg #[.int .i64 0, .int .i64 0], .bool false]) (by simp [*, results, Tryd.results13, go_sem]) rfl ⟨rfl, ?_⟩
  exact (hP1.2.2.2.2.2.2.2.2.2.setCell (Nat.le_add_right w.heap.size 2) _).setCell (Nat.le_add_right w.heap.size 2) _

theorem addI_no2 (ta pa tb pb : Int) (w : World) (ha : goodD ta pa = true) (hb : goodD tb pb = false) : Calls Tryd.prog 13 #[.agg #[.int .i64 ta, .int .i64 pa], .agg #[.int .i64 tb, .int .i64 pb]] w fun e w' => e = .returned (.tuple #[.agg #[.int .i64 0, .int .i64 0], .bool false]) ∧ Below w.heap.size w w' := by
  have HA := Lib.hid ha
  have HBD := Lib.hid hb
  clear ha hb
  have hP0 := trip_start w (.int .i64 ta) (.int .i64 pa) (.int .i64 tb) (.int .i64 pb) 25
  go_enter Tryd.func13, Tryd.ntmps13
  go_wp2_with fail
  refine ((goodI_calls _ _ _).mono fun e w' h => (HA.out ▸ h : _ ∧ _)).mono ?_
  rintro e w1 ⟨rfl, hb⟩
  have hP1 := trip_next hb hP0
  have hQ := hP1
  obtain ⟨c10, c11, c12, c13, c14, c15, c16, c17, c18, HB1⟩ := hQ
  clear hb HB1
  go_wp2_with fail
  refine ((goodI_calls _ _ _).mono fun e w' h => (HBD.out ▸ h : _ ∧ _)).mono ?_
  rintro e w2 ⟨rfl, hb⟩
  have hP2 := trip_next hb hP1
  have hQ := hP2
  obtain ⟨c20, c21, c22, c23, c24, c25, c26, c27, c28, HB2⟩ := hQ
  clear hb HB2
  go_wp2_with fail
  refine bodyPost_ret (v := .tuple #[.agg #[.int .i64 0, .int .i64 0], .bool false]) (by simp [*, results, Tryd.results13, go_sem]) rfl ⟨rfl, ?_⟩
  exact (hP2.2.2.2.2.2.2.2.2.2.setCell (Nat.le_add_right w.heap.size 2) _).setCell (Nat.le_add_right w.heap.size 2) _

theorem addS_no1 (ta pa tb pb : Int) (w : World) (ha : goodD ta pa = false) : Calls Tryd.prog 14 #[.agg #[.int .i64 ta, .int .i64 pa], .agg #[.int .i64 tb, .int .i64 pb]] w fun e w' => e = .returned (.tuple #[.agg #[.int .i64 0, .int .i64 0], .bool false]) ∧ Below w.heap.size w w' := by
  have HA := Lib.hid ha
  clear ha
  have hP0 := trip_start w (.int .i64 ta) (.int .i64 pa) (.int .i64 tb) (.int .i64 pb) 25
  go_enter Tryd.func14, Tryd.ntmps14
  go_wp2_with fail
  refine ((goodS_calls _ _ _).mono fun e w' h => (HA.out ▸ h : _ ∧ _)).mono ?_
  rintro e w1 ⟨rfl, hb⟩
  have hP1 := trip_next hb hP0
  have hQ := hP1
  obtain ⟨c10, c11, c12, c13, c14, c15, c16, c17, c18, HB1⟩ := hQ
  clear hb HB1
  go_wp2_with fail
  refine bodyPost_ret (v := .tuple #[.agg #[.int .i64 0, .int .i64 0], .bool false]) (by simp [*, results, Tryd.results14, go_sem]) rfl ⟨rfl, ?_⟩
  exact (hP1.2.2.2.2.2.2.2.2.2.setCell (Nat.le_add_right w.heap.size 2) _).setCell (Nat.le_add_right w.heap.size 2) _

theorem addS_no2 (ta pa tb pb : Int) (w : World) (ha : goodD ta pa = true) (hb : goodD tb pb = false) : Calls Tryd.prog 14 #[.agg #[.int .i64 ta, .int .i64 pa], .agg #[.int .i64 tb, .int .i64 pb]] w fun e w' => e = .returned (.tuple #[.agg #[.int .i64 0, .int .i64 0], .bool false]) ∧ Below w.heap.size w w' := by
  have HA := Lib.hid ha
  have HBD := Lib.hid hb
  clear ha hb
  have hP0 := trip_start w (.int .i64 ta) (.int .i64 pa) (.int .i64 tb) (.int .i64 pb) 25
  go_enter Tryd.func14, Tryd.ntmps14
  go_wp2_with fail
  refine ((goodS_calls _ _ _).mono fun e w' h => (HA.out ▸ h : _ ∧ _)).mono ?_
  rintro e w1 ⟨rfl, hb⟩
  have hP1 := trip_next hb hP0
  have hQ := hP1
  obtain ⟨c10, c11, c12, c13, c14, c15, c16, c17, c18, HB1⟩ := hQ
  clear hb HB1
  go_wp2_with fail
  refine ((goodS_calls _ _ _).mono fun e w' h => (HBD.out ▸ h : _ ∧ _)).mono ?_
  rintro e w2 ⟨rfl, hb⟩
  have hP2 := trip_next hb hP1
  have hQ := hP2
  obtain ⟨c20, c21, c22, c23, c24, c25, c26, c27, c28, HB2⟩ := hQ
  clear hb HB2
  go_wp2_with fail
  refine bodyPost_ret (v := .tuple #[.agg #[.int .i64 0, .int .i64 0], .bool false]) (by simp [*, results, Tryd.results14, go_sem]) rfl ⟨rfl, ?_⟩
  exact (hP2.2.2.2.2.2.2.2.2.2.setCell (Nat.le_add_right w.heap.size 2) _).setCell (Nat.le_add_right w.heap.size 2) _

theorem addS_yes (ta tb : Int) (pa pb : Nat) (w : World) (ha1 : -1000000 ≤ ta) (ha2 : ta ≤ 1000000) (ha3 : pa ≤ 16) (hb1 : -1000000 ≤ tb) (hb2 : tb ≤ 1000000) (hb3 : pb ≤ 16) (ga : goodD ta pa = true) (gb : goodD tb pb = true) : Calls Tryd.prog 14 #[.agg #[.int .i64 ta, .int .i64 pa], .agg #[.int .i64 tb, .int .i64 pb]] w fun e w' => e = .returned (.tuple #[.agg #[.int .i64 ((finD (mkD (sc ta pa + sc tb pb) 24)).1), .int .i64 ((finD (mkD (sc ta pa + sc tb pb) 24)).2.1)], .bool ((finD (mkD (sc ta pa + sc tb pb) 24)).2.2)]) ∧ Below w.heap.size w w' := by
  have HM : ∀ W, Hid (Calls Tryd.prog 43 #[.agg #[.int .i64 ta, .int .i64 pa], .agg #[.int .i64 tb, .int .i64 pb]] W fun e w' => e = .returned (.agg #[.int .i64 ((mkD (sc ta pa + sc tb pb) 24).1), .int .i64 ((mkD (sc ta pa + sc tb pb) 24).2)]) ∧ Below W.heap.size W w') := fun W => Lib.hid (l2Add_calls ta tb pa pb W (by omega) (by omega) (by omega) (by omega) (by omega) (by omega))
  have HI : ∀ W, Hid (Calls Tryd.prog 42 #[.agg #[.int .i64 ((mkD (sc ta pa + sc tb pb) 24).1), .int .i64 ((mkD (sc ta pa + sc tb pb) 24).2)]] W fun e w' => e = .returned (.tuple #[.agg #[.int .i64 ((finD (mkD (sc ta pa + sc tb pb) 24)).1), .int .i64 ((finD (mkD (sc ta pa + sc tb pb) 24)).2.1)], .bool ((finD (mkD (sc ta pa + sc tb pb) 24)).2.2)]) ∧ Below W.heap.size W w') := fun W => Lib.hid (l2If_calls (mkD (sc ta pa + sc tb pb) 24) W)
  have HA := Lib.hid ga
  have HBD := Lib.hid gb
  clear ga gb
  generalize finD (mkD (sc ta pa + sc tb pb) 24) = r at HI ⊢
  generalize mkD (sc ta pa + sc tb pb) 24 = x at HM HI
  have hP0 := trip_start w (.int .i64 ta) (.int .i64 pa) (.int .i64 tb) (.int .i64 pb) 25
  go_enter Tryd.func14, Tryd.ntmps14
  go_wp2_with fail
  refine ((goodS_calls _ _ _).mono fun e w' h => (HA.out ▸ h : _ ∧ _)).mono ?_
  rintro e w1 ⟨rfl, hb⟩
  have hP1 := trip_next hb hP0
  have hQ := hP1
  obtain ⟨c10, c11, c12, c13, c14, c15, c16, c17, c18, HB1⟩ := hQ
  clear hb HB1
  go_wp2_with fail
  refine ((goodS_calls _ _ _).mono fun e w' h => (HBD.out ▸ h : _ ∧ _)).mono ?_
  rintro e w2 ⟨rfl, hb⟩
  have hP2 := trip_next hb hP1
  have hQ := hP2
  obtain ⟨c20, c21, c22, c23, c24, c25, c26, c27, c28, HB2⟩ := hQ
  clear hb HB2
  go_wp2_with fail
  refine ((HM _).out).mono ?_
  rintro e w3 ⟨rfl, hb⟩
  have hP3 := trip_next hb hP2
  have hQ := hP3
  obtain ⟨c30, c31, c32, c33, c34, c35, c36, c37, c38, HB3⟩ := hQ
  clear hb HB3
  go_wp2_with fail
  refine ((HI _).out).mono ?_
  rintro e w4 ⟨rfl, hb⟩
  have hP4 := trip_next hb hP3
  have hQ := hP4
  obtain ⟨c40, c41, c42, c43, c44, c45, c46, c47, c48, HB4⟩ := hQ
  clear hb HB4
  go_wp2_with fail
  refine bodyPost_ret (v := .tuple #[.agg #[.int .i64 r.1, .int .i64 r.2.1], .bool r.2.2]) (by simp [*, results, Tryd.results14, go_sem]) rfl ⟨rfl, ?_⟩
  exact (hP4.2.2.2.2.2.2.2.2.2.setCell (Nat.le_add_right w.heap.size 2) _).setCell (Nat.le_add_right w.heap.size 2) _

theorem floorLev (t : Int) (p m : Nat) (w : World) (h1 : -1000000 ≤ t) (h2 : t ≤ 1000000) (hp : p ≤ m) (hm : m ≤ 16) : Calls Tryd.prog 40 #[.agg #[.int .i64 t, .int .i64 p], .int .i64 m] w fun e w' => e = .returned (.int .i64 (lev t p m)) ∧ Below w.heap.size w w' :=
  floorAt_hi t p m w (by omega) (by omega) hp (by omega)
theorem lev_bd {t : Int} {p m : Nat} (h1 : -1000000 ≤ t) (h2 : t ≤ 1000000) (hm : m ≤ 16) : -65536000000 ≤ lev t p m ∧ lev t p m ≤ 65536000000 := by
  have a := two_pos (m - p)
  have b := pow_le (m - p) 16 (by omega)
  have e : (2 : Int) ^ 16 = 65536 := by decide
  rw [e] at b
  have c1 : 1000000 * (2 : Int) ^ (m - p) ≤ 1000000 * 65536 := Int.mul_le_mul_of_nonneg_left b (by decide)
  have c2 : t * 2 ^ (m - p) ≤ 1000000 * 2 ^ (m - p) := Int.mul_le_mul_of_nonneg_right h2 (Int.le_of_lt a)
  have c3 : -1000000 * 2 ^ (m - p) ≤ t * 2 ^ (m - p) := Int.mul_le_mul_of_nonneg_right h1 (Int.le_of_lt a)
  rw [Int.neg_mul] at c3
  unfold lev
  omega

set_option maxHeartbeats 1000000 in
theorem addI_le (ta tb : Int) (pa pb : Nat) (w : World) (hT : DeBr w) (ha1 : -1000000 ≤ ta) (ha2 : ta ≤ 1000000) (ha3 : pa ≤ 16) (hb1 : -1000000 ≤ tb) (hb2 : tb ≤ 1000000) (hb3 : pb ≤ 16) (ga : goodD ta pa = true) (gb : goodD tb pb = true) (h : pa < pb) : Calls Tryd.prog 13 #[.agg #[.int .i64 ta, .int .i64 pa], .agg #[.int .i64 tb, .int .i64 pb]] w fun e w' => e = .returned (.tuple #[.agg #[.int .i64 ((finD (mkD (lev ta pa pb + lev tb pb pb) pb)).1), .int .i64 ((finD (mkD (lev ta pa pb + lev tb pb pb) pb)).2.1)], .bool ((finD (mkD (lev ta pa pb + lev tb pb pb) pb)).2.2)]) ∧ Below w.heap.size w w' := by
  have HM : ∀ W, Below w.heap.size w W → Hid (Calls Tryd.prog 39 #[.int .i64 (lev ta pa pb + lev tb pb pb), .int .i64 pb] W fun e w' => e = .returned (.tuple #[.agg #[.int .i64 ((finD (mkD (lev ta pa pb + lev tb pb pb) pb)).1), .int .i64 ((finD (mkD (lev ta pa pb + lev tb pb pb) pb)).2.1)], .bool ((finD (mkD (lev ta pa pb + lev tb pb pb) pb)).2.2)]) ∧ Below W.heap.size W w') := fun W hb => Lib.hid (reduced_calls _ pb W (by omega) (hT.below hb))
  have l1 := lev_bd (p := pa) ha1 ha2 (by omega : pb ≤ 16)
  have l2 := lev_bd (p := pb) hb1 hb2 (by omega : pb ≤ 16)
  have s3 : IntKind.i64.wrap (lev ta pa pb + lev tb pb pb) = lev ta pa pb + lev tb pb pb := IntWalk.i64_in _ (by omega)
  have HA := Lib.hid ga
  have HBD := Lib.hid gb
  clear ga gb hT l1 l2
  generalize finD (mkD (lev ta pa pb + lev tb pb pb) pb) = r at HM ⊢
  have m1 : (pa : Int) < pb := by omega
  have m2 : ¬ (pb : Int) ≤ pa := by omega
  have hP0 := trip_start w (.int .i64 ta) (.int .i64 pa) (.int .i64 tb) (.int .i64 pb) 25
  go_enter Tryd.func13, Tryd.ntmps13
  go_wp2_with fail
  refine ((goodI_calls _ _ _).mono fun e w' h => (HA.out ▸ h : _ ∧ _)).mono ?_
  rintro e w1 ⟨rfl, hb⟩
  have hP1 := trip_next hb hP0
  have hQ := hP1
  obtain ⟨c10, c11, c12, c13, c14, c15, c16, c17, c18, HB1⟩ := hQ
  clear hb HB1
  go_wp2_with fail
  refine ((goodI_calls _ _ _).mono fun e w' h => (HBD.out ▸ h : _ ∧ _)).mono ?_
  rintro e w2 ⟨rfl, hb⟩
  have hP2 := trip_next hb hP1
  have hQ := hP2
  obtain ⟨c20, c21, c22, c23, c24, c25, c26, c27, c28, HB2⟩ := hQ
  clear hb HB2
  go_wp2_with fail
  have hS0 := trip_drew hP2
  go_region_held3 (fun w' : World => w'.cell? ⟨w.heap.size, 0, none⟩ = some (.int .i64 ta) ∧ w'.cell? ⟨w.heap.size, 1, none⟩ = some (.int .i64 pa) ∧ w'.cell? ⟨w.heap.size + 1, 0, none⟩ = some (.int .i64 tb) ∧ w'.cell? ⟨w.heap.size + 1, 1, none⟩ = some (.int .i64 pb) ∧ w'.cell? ⟨w.heap.size + 2, 0, none⟩ = some (curV w' (w.heap.size + 2) 0) ∧ w'.cell? ⟨w.heap.size + 2, 1, none⟩ = some (curV w' (w.heap.size + 2) 1) ∧ w'.frozen? ⟨w.heap.size + 2, 0, none⟩ = false ∧ w'.frozen? ⟨w.heap.size + 2, 1, none⟩ = false ∧ w.heap.size + 2 < w'.heap.size ∧ Below w.heap.size w w') (first | exact hS0 | (go_split_ands; exact ⟨‹_›, ‹_›, ‹_›, ‹_›, ‹_›, ‹_›, ‹_›, ‹_›, ‹_›, ‹_›⟩) | (go_split_ands; exact trip_next hb ⟨‹_›, ‹_›, ‹_›, ‹_›, ‹_›, ‹_›, ‹_›, ‹_›, ‹_›, ‹_›⟩) | (go_split_ands; exact trip_set ⟨‹_›, ‹_›, ‹_›, ‹_›, ‹_›, ‹_›, ‹_›, ‹_›, ‹_›, ‹_›⟩)) (first | (go_at_call 40; refine (floorLev _ _ _ _ ?_ ?_ ?_ ?_).mono ?_; (omega); (omega); (omega); (omega); rintro e w1 ⟨rfl, hb⟩) | (go_at_call 39; refine (HM _ ?_).out.mono ?_; (go_split_ands; assumption); rintro e w1 ⟨rfl, hb⟩))
  rename_i hH
  obtain ⟨k0, k1, k2⟩ := trip_done (w := w) (W := w1) (x := .int .i64 r.1) (y := .int .i64 r.2.1) hH
  clear hH
  have k2 := Lib.hid k2
  go_wp2_with fail
  refine bodyPost_ret (v := .tuple #[.agg #[.int .i64 r.1, .int .i64 r.2.1], .bool r.2.2]) (by simp [*, results, Tryd.results13, go_sem]) rfl ⟨rfl, k2.out⟩

set_option maxHeartbeats 1000000 in
theorem addI_gt (ta tb : Int) (pa pb : Nat) (w : World) (hT : DeBr w) (ha1 : -1000000 ≤ ta) (ha2 : ta ≤ 1000000) (ha3 : pa ≤ 16) (hb1 : -1000000 ≤ tb) (hb2 : tb ≤ 1000000) (hb3 : pb ≤ 16) (ga : goodD ta pa = true) (gb : goodD tb pb = true) (h : pb ≤ pa) : Calls Tryd.prog 13 #[.agg #[.int .i64 ta, .int .i64 pa], .agg #[.int .i64 tb, .int .i64 pb]] w fun e w' => e = .returned (.tuple #[.agg #[.int .i64 ((finD (mkD (lev ta pa pa + lev tb pb pa) pa)).1), .int .i64 ((finD (mkD (lev ta pa pa + lev tb pb pa) pa)).2.1)], .bool ((finD (mkD (lev ta pa pa + lev tb pb pa) pa)).2.2)]) ∧ Below w.heap.size w w' := by
  have HM : ∀ W, Below w.heap.size w W → Hid (Calls Tryd.prog 39 #[.int .i64 (lev ta pa pa + lev tb pb pa), .int .i64 pa] W fun e w' => e = .returned (.tuple #[.agg #[.int .i64 ((finD (mkD (lev ta pa pa + lev tb pb pa) pa)).1), .int .i64 ((finD (mkD (lev ta pa pa + lev tb pb pa) pa)).2.1)], .bool ((finD (mkD (lev ta pa pa + lev tb pb pa) pa)).2.2)]) ∧ Below W.heap.size W w') := fun W hb => Lib.hid (reduced_calls _ pa W (by omega) (hT.below hb))
  have l1 := lev_bd (p := pa) ha1 ha2 (by omega : pa ≤ 16)
  have l2 := lev_bd (p := pb) hb1 hb2 (by omega : pa ≤ 16)
  have s3 : IntKind.i64.wrap (lev ta pa pa + lev tb pb pa) = lev ta pa pa + lev tb pb pa := IntWalk.i64_in _ (by omega)
  have HA := Lib.hid ga
  have HBD := Lib.hid gb
  clear ga gb hT l1 l2
  generalize finD (mkD (lev ta pa pa + lev tb pb pa) pa) = r at HM ⊢
  have m1 : (pb : Int) ≤ pa := by omega
  have m2 : ¬ (pa : Int) < pb := by omega
  have hP0 := trip_start w (.int .i64 ta) (.int .i64 pa) (.int .i64 tb) (.int .i64 pb) 25
  go_enter Tryd.func13, Tryd.ntmps13
  go_wp2_with fail
  refine ((goodI_calls _ _ _).mono fun e w' h => (HA.out ▸ h : _ ∧ _)).mono ?_
  rintro e w1 ⟨rfl, hb⟩
  have hP1 := trip_next hb hP0
  have hQ := hP1
  obtain ⟨c10, c11, c12, c13, c14, c15, c16, c17, c18, HB1⟩ := hQ
  clear hb HB1
  go_wp2_with fail
  refine ((goodI_calls _ _ _).mono fun e w' h => (HBD.out ▸ h : _ ∧ _)).mono ?_
  rintro e w2 ⟨rfl, hb⟩
  have hP2 := trip_next hb hP1
  have hQ := hP2
  obtain ⟨c20, c21, c22, c23, c24, c25, c26, c27, c28, HB2⟩ := hQ
  clear hb HB2
  go_wp2_with fail
  have hS0 := trip_drew hP2
  go_region_held3 (fun w' : World => w'.cell? ⟨w.heap.size, 0, none⟩ = some (.int .i64 ta) ∧ w'.cell? ⟨w.heap.size, 1, none⟩ = some (.int .i64 pa) ∧ w'.cell? ⟨w.heap.size + 1, 0, none⟩ = some (.int .i64 tb) ∧ w'.cell? ⟨w.heap.size + 1, 1, none⟩ = some (.int .i64 pb) ∧ w'.cell? ⟨w.heap.size + 2, 0, none⟩ = some (curV w' (w.heap.size + 2) 0) ∧ w'.cell? ⟨w.heap.size + 2, 1, none⟩ = some (curV w' (w.heap.size + 2) 1) ∧ w'.frozen? ⟨w.heap.size + 2, 0, none⟩ = false ∧ w'.frozen? ⟨w.heap.size + 2, 1, none⟩ = false ∧ w.heap.size + 2 < w'.heap.size ∧ Below w.heap.size w w') (first | exact hS0 | (go_split_ands; exact ⟨‹_›, ‹_›, ‹_›, ‹_›, ‹_›, ‹_›, ‹_›, ‹_›, ‹_›, ‹_›⟩) | (go_split_ands; exact trip_next hb ⟨‹_›, ‹_›, ‹_›, ‹_›, ‹_›, ‹_›, ‹_›, ‹_›, ‹_›, ‹_›⟩) | (go_split_ands; exact trip_set ⟨‹_›, ‹_›, ‹_›, ‹_›, ‹_›, ‹_›, ‹_›, ‹_›, ‹_›, ‹_›⟩)) (first | (go_at_call 40; refine (floorLev _ _ _ _ ?_ ?_ ?_ ?_).mono ?_; (omega); (omega); (omega); (omega); rintro e w1 ⟨rfl, hb⟩) | (go_at_call 39; refine (HM _ ?_).out.mono ?_; (go_split_ands; assumption); rintro e w1 ⟨rfl, hb⟩))
  rename_i hH
  obtain ⟨k0, k1, k2⟩ := trip_done (w := w) (W := w1) (x := .int .i64 r.1) (y := .int .i64 r.2.1) hH
  clear hH
  have k2 := Lib.hid k2
  go_wp2_with fail
  refine bodyPost_ret (v := .tuple #[.agg #[.int .i64 r.1, .int .i64 r.2.1], .bool r.2.2]) (by simp [*, results, Tryd.results13, go_sem]) rfl ⟨rfl, k2.out⟩

theorem addI_yes (ta tb : Int) (pa pb : Nat) (w : World) (hT : DeBr w) (ha1 : -1000000 ≤ ta) (ha2 : ta ≤ 1000000) (ha3 : pa ≤ 16) (hb1 : -1000000 ≤ tb) (hb2 : tb ≤ 1000000) (hb3 : pb ≤ 16) (ga : goodD ta pa = true) (gb : goodD tb pb = true) : Calls Tryd.prog 13 #[.agg #[.int .i64 ta, .int .i64 pa], .agg #[.int .i64 tb, .int .i64 pb]] w fun e w' => e = .returned (.tuple #[.agg #[.int .i64 ((finD (mkD (sc ta pa + sc tb pb) 24)).1), .int .i64 ((finD (mkD (sc ta pa + sc tb pb) 24)).2.1)], .bool ((finD (mkD (sc ta pa + sc tb pb) 24)).2.2)]) ∧ Below w.heap.size w w' := by
  by_cases h : pa < pb
  · rw [← mkD_sum (Nat.le_of_lt h) (Nat.le_refl pb) (by omega : pb ≤ 24)]
    exact addI_le ta tb pa pb w hT ha1 ha2 ha3 hb1 hb2 hb3 ga gb h
  · rw [← mkD_sum (Nat.le_refl pa) (by omega : pb ≤ pa) (by omega : pa ≤ 24)]
    exact addI_gt ta tb pa pb w hT ha1 ha2 ha3 hb1 hb2 hb3 ga gb (by omega)

end Go.Proofs.YtlblkmhiildgeaaDoor
