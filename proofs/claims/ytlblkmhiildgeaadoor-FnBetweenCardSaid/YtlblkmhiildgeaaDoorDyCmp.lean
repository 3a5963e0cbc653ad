/- Contracts: the order of two numbers and when one is born, for every argument; the walks of their laws. -/
import Derived.Test.YtlblkmhiildgeaaDoorDyOrder
namespace Go.Proofs.YtlblkmhiildgeaaDoor
open Go.RowKit

/-- the order of two -/
def ordD (ta : Int) (pa : Nat) (tb : Int) (pb : Nat) : Int := if sc ta pa < sc tb pb then -1 else if sc tb pb < sc ta pa then 1 else 0
theorem ordD_at {ta tb : Int} {pa pb m : Nat} (ha : pa ≤ m) (hb : pb ≤ m) (hm : m ≤ 24) : cmpD (ta * 2 ^ (m - pa)) (tb * 2 ^ (m - pb)) = ordD ta pa tb pb := by
  unfold ordD cmpD
  simp only [sc_lt ha hb hm, sc_lt hb ha hm]

theorem cmpI_no1 (ta pa tb pb : Int) (w : World) (ha : goodD ta pa = false) : Calls Tryd.prog 15 #[.agg #[.int .i64 ta, .int .i64 pa], .agg #[.int .i64 tb, .int .i64 pb]] w fun e w' => e = .returned (.tuple #[.int .i64 0, .bool false]) ∧ Below w.heap.size w w' := by
  have hP0 := pair_start w (.int .i64 ta) (.int .i64 pa) (.int .i64 tb) (.int .i64 pb) 25
  go_enter Tryd.func15, Tryd.ntmps15
  go_wp2_with fail
  refine (goodI_calls _ _ _).mono ?_
  rintro e w1 ⟨rfl, hb⟩
  have hP1 := pair_next hb hP0
  have hQ := hP1
  obtain ⟨c10, c11, c12, c13, c14, HB1⟩ := hQ
  have hf1 := (bcell hb).2
  clear hb HB1
  go_wp2_with fail
  go_ret2
  exact ⟨rfl, hP1.2.2.2.2.2⟩

theorem cmpI_no2 (ta pa tb pb : Int) (w : World) (ha : goodD ta pa = true) (hb : goodD tb pb = false) : Calls Tryd.prog 15 #[.agg #[.int .i64 ta, .int .i64 pa], .agg #[.int .i64 tb, .int .i64 pb]] w fun e w' => e = .returned (.tuple #[.int .i64 0, .bool false]) ∧ Below w.heap.size w w' := by
  have hP0 := pair_start w (.int .i64 ta) (.int .i64 pa) (.int .i64 tb) (.int .i64 pb) 25
  have HA := Lib.hid ha
  have HBD := Lib.hid hb
  clear ha hb
  go_enter Tryd.func15, Tryd.ntmps15
  go_wp2_with fail
  refine ((goodI_calls _ _ _).mono fun e w' h => (HA.out ▸ h : _ ∧ _)).mono ?_
  rintro e w1 ⟨rfl, hb⟩
  have hP1 := pair_next hb hP0
  have hQ := hP1
  obtain ⟨c10, c11, c12, c13, c14, HB1⟩ := hQ
  have hf1 := (bcell hb).2
  clear hb HB1
  go_wp2_with fail
  refine ((goodI_calls _ _ _).mono fun e w' h => (HBD.out ▸ h : _ ∧ _)).mono ?_
  rintro e w2 ⟨rfl, hb⟩
  have hP2 := pair_next hb hP1
  have hQ := hP2
  obtain ⟨c20, c21, c22, c23, c24, HB2⟩ := hQ
  have hf2 := (bcell hb).2
  clear hb HB2
  go_wp2_with fail
  go_ret2
  exact ⟨rfl, hP2.2.2.2.2.2⟩

theorem cmpS_no1 (ta pa tb pb : Int) (w : World) (ha : goodD ta pa = false) : Calls Tryd.prog 16 #[.agg #[.int .i64 ta, .int .i64 pa], .agg #[.int .i64 tb, .int .i64 pb]] w fun e w' => e = .returned (.tuple #[.int .i64 0, .bool false]) ∧ Below w.heap.size w w' := by
  have hP0 := pair_start w (.int .i64 ta) (.int .i64 pa) (.int .i64 tb) (.int .i64 pb) 25
  go_enter Tryd.func16, Tryd.ntmps16
  go_wp2_with fail
  refine (goodS_calls _ _ _).mono ?_
  rintro e w1 ⟨rfl, hb⟩
  have hP1 := pair_next hb hP0
  have hQ := hP1
  obtain ⟨c10, c11, c12, c13, c14, HB1⟩ := hQ
  have hf1 := (bcell hb).2
  clear hb HB1
  go_wp2_with fail
  go_ret2
  exact ⟨rfl, hP1.2.2.2.2.2⟩

theorem cmpS_no2 (ta pa tb pb : Int) (w : World) (ha : goodD ta pa = true) (hb : goodD tb pb = false) : Calls Tryd.prog 16 #[.agg #[.int .i64 ta, .int .i64 pa], .agg #[.int .i64 tb, .int .i64 pb]] w fun e w' => e = .returned (.tuple #[.int .i64 0, .bool false]) ∧ Below w.heap.size w w' := by
  have hP0 := pair_start w (.int .i64 ta) (.int .i64 pa) (.int .i64 tb) (.int .i64 pb) 25
  have HA := Lib.hid ha
  have HBD := Lib.hid hb
  clear ha hb
  go_enter Tryd.func16, Tryd.ntmps16
  go_wp2_with fail
  refine ((goodS_calls _ _ _).mono fun e w' h => (HA.out ▸ h : _ ∧ _)).mono ?_
  rintro e w1 ⟨rfl, hb⟩
  have hP1 := pair_next hb hP0
  have hQ := hP1
  obtain ⟨c10, c11, c12, c13, c14, HB1⟩ := hQ
  have hf1 := (bcell hb).2
  clear hb HB1
  go_wp2_with fail
  refine ((goodS_calls _ _ _).mono fun e w' h => (HBD.out ▸ h : _ ∧ _)).mono ?_
  rintro e w2 ⟨rfl, hb⟩
  have hP2 := pair_next hb hP1
  have hQ := hP2
  obtain ⟨c20, c21, c22, c23, c24, HB2⟩ := hQ
  have hf2 := (bcell hb).2
  clear hb HB2
  go_wp2_with fail
  go_ret2
  exact ⟨rfl, hP2.2.2.2.2.2⟩

theorem floorAt16 (t : Int) (p : Nat) (w : World) (h1 : -1000000 ≤ t) (h2 : t ≤ 1000000) (hp : p ≤ 16) : Calls Tryd.prog 40 #[.agg #[.int .i64 t, .int .i64 p], .int .i64 16] w fun e w' => e = .returned (.int .i64 (t * 2 ^ (16 - p))) ∧ Below w.heap.size w w' :=
  floorAt_hi t p 16 w (by omega) (by omega) hp (by omega)

theorem cmpI_yes (ta tb : Int) (pa pb : Nat) (w : World) (ha1 : -1000000 ≤ ta) (ha2 : ta ≤ 1000000) (ha3 : pa ≤ 16) (hb1 : -1000000 ≤ tb) (hb2 : tb ≤ 1000000) (hb3 : pb ≤ 16) (ga : goodD ta pa = true) (gb : goodD tb pb = true) : Calls Tryd.prog 15 #[.agg #[.int .i64 ta, .int .i64 pa], .agg #[.int .i64 tb, .int .i64 pb]] w fun e w' => e = .returned (.tuple #[.int .i64 (ordD ta pa tb pb), .bool true]) ∧ Below w.heap.size w w' := by
  have HO := Lib.hid (ordD_at (ta := ta) (tb := tb) ha3 hb3 (by omega : 16 ≤ 24))
  have hP0 := pair_start w (.int .i64 ta) (.int .i64 pa) (.int .i64 tb) (.int .i64 pb) 25
  have HA := Lib.hid ga
  have HBD := Lib.hid gb
  clear ga gb
  go_enter Tryd.func15, Tryd.ntmps15
  go_wp2_with fail
  refine ((goodI_calls _ _ _).mono fun e w' h => (HA.out ▸ h : _ ∧ _)).mono ?_
  rintro e w1 ⟨rfl, hb⟩
  have hP1 := pair_next hb hP0
  have hQ := hP1
  obtain ⟨c10, c11, c12, c13, c14, HB1⟩ := hQ
  have hf1 := (bcell hb).2
  clear hb HB1
  go_wp2_with fail
  refine ((goodI_calls _ _ _).mono fun e w' h => (HBD.out ▸ h : _ ∧ _)).mono ?_
  rintro e w2 ⟨rfl, hb⟩
  have hP2 := pair_next hb hP1
  have hQ := hP2
  obtain ⟨c20, c21, c22, c23, c24, HB2⟩ := hQ
  have hf2 := (bcell hb).2
  clear hb HB2
  go_wp2_with fail
  have hS0 := pair_drew hP2
  go_region_held3 (fun w' : World => w'.cell? ⟨w.heap.size, 0, none⟩ = some (.int .i64 ta) ∧ w'.cell? ⟨w.heap.size, 1, none⟩ = some (.int .i64 pa) ∧ w'.cell? ⟨w.heap.size + 1, 0, none⟩ = some (.int .i64 tb) ∧ w'.cell? ⟨w.heap.size + 1, 1, none⟩ = some (.int .i64 pb) ∧ w.heap.size + 1 < w'.heap.size ∧ Below w.heap.size w w') (first | exact hS0 | (go_split_ands; exact ⟨‹_›, ‹_›, ‹_›, ‹_›, ‹_›, ‹_›⟩) | (go_split_ands; exact pair_next hb ⟨‹_›, ‹_›, ‹_›, ‹_›, ‹_›, ‹_›⟩) | (go_split_ands; exact pair_alloc ⟨‹_›, ‹_›, ‹_›, ‹_›, ‹_›, ‹_›⟩) | (go_split_ands; refine pair_swap ?_ ⟨‹_›, ‹_›, ‹_›, ‹_›, ‹_›, ‹_›⟩; omega) | (go_split_ands; refine pair_far ?_ ⟨‹_›, ‹_›, ‹_›, ‹_›, ‹_›, ‹_›⟩; omega)) (first | (go_at_call 40; refine (floorAt16 _ _ _ ?_ ?_ ?_).mono ?_; (omega); (omega); (omega); rintro e w1 ⟨rfl, hb⟩) | (go_at_call 44; refine (cmp_calls _ _ _).mono ?_; rintro e w1 ⟨rfl, rfl⟩))
  go_split_ands
  go_wp2_with fail
  go_ret2
  exact ⟨by rw [← HO.out]; rfl, by assumption⟩

theorem cmpS_yes (ta tb : Int) (pa pb : Nat) (w : World) (ha1 : -1000000 ≤ ta) (ha2 : ta ≤ 1000000) (ha3 : pa ≤ 16) (hb1 : -1000000 ≤ tb) (hb2 : tb ≤ 1000000) (hb3 : pb ≤ 16) (ga : goodD ta pa = true) (gb : goodD tb pb = true) : Calls Tryd.prog 16 #[.agg #[.int .i64 ta, .int .i64 pa], .agg #[.int .i64 tb, .int .i64 pb]] w fun e w' => e = .returned (.tuple #[.int .i64 (ordD ta pa tb pb), .bool true]) ∧ Below w.heap.size w w' := by
  have hP0 := pair_start w (.int .i64 ta) (.int .i64 pa) (.int .i64 tb) (.int .i64 pb) 25
  have HA := Lib.hid ga
  have HBD := Lib.hid gb
  have a1 : -1000000000 ≤ ta := by omega
  have a2 : ta ≤ 1000000000 := by omega
  have a3 : pa ≤ 24 := by omega
  have b1 : -1000000000 ≤ tb := by omega
  have b2 : tb ≤ 1000000000 := by omega
  have b3 : pb ≤ 24 := by omega
  clear ga gb ha1 ha2 ha3 hb1 hb2 hb3
  rcases Int.lt_trichotomy (sc ta pa) (sc tb pb) with h | h | h
  · have HO : Hid (ordD ta pa tb pb = -1) := Lib.hid (by unfold ordD; rw [if_pos h])
    go_enter Tryd.func16, Tryd.ntmps16
    go_wp2_with fail
    refine ((goodS_calls _ _ _).mono fun e w' h => (HA.out ▸ h : _ ∧ _)).mono ?_
    rintro e w1 ⟨rfl, hb⟩
    have hP1 := pair_next hb hP0
    have hQ := hP1
    obtain ⟨c10, c11, c12, c13, c14, HB1⟩ := hQ
    have hf1 := (bcell hb).2
    clear hb HB1
    go_wp2_with fail
    refine ((goodS_calls _ _ _).mono fun e w' h => (HBD.out ▸ h : _ ∧ _)).mono ?_
    rintro e w2 ⟨rfl, hb⟩
    have hP2 := pair_next hb hP1
    have hQ := hP2
    obtain ⟨c20, c21, c22, c23, c24, HB2⟩ := hQ
    have hf2 := (bcell hb).2
    clear hb HB2
    go_wp2_with fail
    refine (less_calls _ _ _ _ _ a1 a2 a3 b1 b2 b3).mono ?_
    rintro e w3 ⟨rfl, hb⟩
    have hP3 := pair_next hb hP2
    have hQ := hP3
    obtain ⟨c30, c31, c32, c33, c34, HB3⟩ := hQ
    have hf3 := (bcell hb).2
    clear hb HB3
    go_wp2_with fail
    go_ret2
    exact ⟨by rw [HO.out]; rfl, hP3.2.2.2.2.2⟩
  · have h5 : ¬ sc ta pa < sc tb pb := by omega
    have h6 : ¬ sc tb pb < sc ta pa := by omega
    clear h
    have HO : Hid (ordD ta pa tb pb = 0) := Lib.hid (by unfold ordD; rw [if_neg (by omega), if_neg (by omega)])
    go_enter Tryd.func16, Tryd.ntmps16
    go_wp2_with fail
    refine ((goodS_calls _ _ _).mono fun e w' h => (HA.out ▸ h : _ ∧ _)).mono ?_
    rintro e w1 ⟨rfl, hb⟩
    have hP1 := pair_next hb hP0
    have hQ := hP1
    obtain ⟨c10, c11, c12, c13, c14, HB1⟩ := hQ
    have hf1 := (bcell hb).2
    clear hb HB1
    go_wp2_with fail
    refine ((goodS_calls _ _ _).mono fun e w' h => (HBD.out ▸ h : _ ∧ _)).mono ?_
    rintro e w2 ⟨rfl, hb⟩
    have hP2 := pair_next hb hP1
    have hQ := hP2
    obtain ⟨c20, c21, c22, c23, c24, HB2⟩ := hQ
    have hf2 := (bcell hb).2
    clear hb HB2
    go_wp2_with fail
    refine (less_calls _ _ _ _ _ a1 a2 a3 b1 b2 b3).mono ?_
    rintro e w3 ⟨rfl, hb⟩
    have hP3 := pair_next hb hP2
    have hQ := hP3
    obtain ⟨c30, c31, c32, c33, c34, HB3⟩ := hQ
    have hf3 := (bcell hb).2
    clear hb HB3
    go_wp2_with fail
    refine (less_calls _ _ _ _ _ b1 b2 b3 a1 a2 a3).mono ?_
    rintro e w4 ⟨rfl, hb⟩
    have hP4 := pair_next hb hP3
    have hQ := hP4
    obtain ⟨c40, c41, c42, c43, c44, HB4⟩ := hQ
    have hf4 := (bcell hb).2
    clear hb HB4
    go_wp2_with fail
    go_ret2
    exact ⟨by rw [HO.out]; rfl, hP4.2.2.2.2.2⟩
  · have h5 : ¬ sc ta pa < sc tb pb := by omega
    have HO : Hid (ordD ta pa tb pb = 1) := Lib.hid (by unfold ordD; rw [if_neg (by omega), if_pos h])
    go_enter Tryd.func16, Tryd.ntmps16
    go_wp2_with fail
    refine ((goodS_calls _ _ _).mono fun e w' h => (HA.out ▸ h : _ ∧ _)).mono ?_
    rintro e w1 ⟨rfl, hb⟩
    have hP1 := pair_next hb hP0
    have hQ := hP1
    obtain ⟨c10, c11, c12, c13, c14, HB1⟩ := hQ
    have hf1 := (bcell hb).2
    clear hb HB1
    go_wp2_with fail
    refine ((goodS_calls _ _ _).mono fun e w' h => (HBD.out ▸ h : _ ∧ _)).mono ?_
    rintro e w2 ⟨rfl, hb⟩
    have hP2 := pair_next hb hP1
    have hQ := hP2
    obtain ⟨c20, c21, c22, c23, c24, HB2⟩ := hQ
    have hf2 := (bcell hb).2
    clear hb HB2
    go_wp2_with fail
    refine (less_calls _ _ _ _ _ a1 a2 a3 b1 b2 b3).mono ?_
    rintro e w3 ⟨rfl, hb⟩
    have hP3 := pair_next hb hP2
    have hQ := hP3
    obtain ⟨c30, c31, c32, c33, c34, HB3⟩ := hQ
    have hf3 := (bcell hb).2
    clear hb HB3
    go_wp2_with fail
    refine (less_calls _ _ _ _ _ b1 b2 b3 a1 a2 a3).mono ?_
    rintro e w4 ⟨rfl, hb⟩
    have hP4 := pair_next hb hP3
    have hQ := hP4
    obtain ⟨c40, c41, c42, c43, c44, HB4⟩ := hQ
    have hf4 := (bcell hb).2
    clear hb HB4
    go_wp2_with fail
    go_ret2
    exact ⟨by rw [HO.out]; rfl, hP4.2.2.2.2.2⟩

end Go.Proofs.YtlblkmhiildgeaaDoor
