/- Contracts: a number at a level, the order of two, when one is born. -/
import Derived.Test.YtlblkmhiildgeaaDoorDyPlain
import Derived.Deep.RegionHeld3
namespace Go.Proofs.YtlblkmhiildgeaaDoor
open Go.RowKit

theorem sh_nat {a b : Nat} (h : b ≤ a) : ((a : Int) - (b : Int)).toNat = a - b := by omega
theorem mul_pow_bd {t : Int} {k : Nat} (h1 : -1000000000 ≤ t) (h2 : t ≤ 1000000000) (hk : k ≤ 24) : -9223372036854775808 ≤ t * 2 ^ k ∧ t * 2 ^ k ≤ 9223372036854775807 := by
  have a := two_pos k
  have b := pow_le k 24 hk
  have e : (2 : Int) ^ 24 = 16777216 := by decide
  rw [e] at b
  have c1 : 1000000000 * (2 : Int) ^ k ≤ 1000000000 * 16777216 := Int.mul_le_mul_of_nonneg_left b (by decide)
  have c2 : t * 2 ^ k ≤ 1000000000 * 2 ^ k := Int.mul_le_mul_of_nonneg_right h2 (Int.le_of_lt a)
  have c3 : -1000000000 * 2 ^ k ≤ t * 2 ^ k := Int.mul_le_mul_of_nonneg_right h1 (Int.le_of_lt a)
  rw [Int.neg_mul] at c3
  omega
theorem wrap_mul {t : Int} {k : Nat} (h1 : -1000000000 ≤ t) (h2 : t ≤ 1000000000) (hk : k ≤ 24) : IntKind.i64.wrap (t * 2 ^ k) = t * 2 ^ k := IntWalk.i64_in _ (mul_pow_bd h1 h2 hk)

theorem floorAt_hi (t : Int) (p m : Nat) (w : World) (h1 : -1000000000 ≤ t) (h2 : t ≤ 1000000000) (hp : p ≤ m) (hm : m ≤ 24) : Calls Tryd.prog 40 #[.agg #[.int .i64 t, .int .i64 p], .int .i64 m] w fun e w' => e = .returned (.int .i64 (t * 2 ^ (m - p))) ∧ Below w.heap.size w w' := by
  have a1 : ¬ (m : Int) < p := by omega
  have a2 := sh_nat hp
  have a3 : (0 : Int) ≤ (m : Int) - p := by omega
  have a4 : (m : Int) - p ≤ 64 := by omega
  have a5 := wrap_mul (k := m - p) h1 h2 (by omega)
  go_enter Tryd.func40, Tryd.ntmps40
  go_wp2
  go_ret
  exact ⟨rfl, (Below.refl _ _).alloc (Nat.le_refl _) _⟩

theorem floorAt_lo (t : Int) (p m : Nat) (w : World) (hp : m < p) (hm : p ≤ 24) : Calls Tryd.prog 40 #[.agg #[.int .i64 t, .int .i64 p], .int .i64 m] w fun e w' => e = .returned (.int .i64 (t / 2 ^ (p - m))) ∧ Below w.heap.size w w' := by
  have a1 : (m : Int) < p := by omega
  have a2 := sh_nat (Nat.le_of_lt hp)
  have a3 : (0 : Int) ≤ (p : Int) - m := by omega
  have a4 : (p : Int) - m ≤ 64 := by omega
  go_enter Tryd.func40, Tryd.ntmps40
  go_wp2
  go_ret
  exact ⟨rfl, (Below.refl _ _).alloc (Nat.le_refl _) _⟩

theorem scaled_calls (t : Int) (p : Nat) (w : World) (h1 : -1000000000 ≤ t) (h2 : t ≤ 1000000000) (hp : p ≤ 24) : Calls Tryd.prog 68 #[.agg #[.int .i64 t, .int .i64 p]] w fun e w' => e = .returned (.int .i64 (sc t p)) ∧ Below w.heap.size w w' := by
  have a2 := sh_nat hp
  have a3 : (0 : Int) ≤ (24 : Int) - p := by omega
  have a4 : (24 : Int) - p ≤ 64 := by omega
  have a5 := wrap_mul (k := 24 - p) h1 h2 (by omega)
  go_enter Tryd.func68, Tryd.ntmps68
  go_wp2
  go_ret
  exact ⟨rfl, (Below.refl _ _).alloc (Nat.le_refl _) _⟩

/-- how two whole numbers compare -/
def cmpD (x y : Int) : Int := if x < y then -1 else if y < x then 1 else 0

theorem cmp_calls (x y : Int) (w : World) : Calls Tryd.prog 44 #[.int .i64 x, .int .i64 y] w fun e w' => e = .returned (.int .i64 (cmpD x y)) ∧ w = w' := by
  have HD : Hid (cmpD x y = if x < y then -1 else if y < x then 1 else 0) := Lib.hid rfl
  go_enter Tryd.func44, Tryd.ntmps44
  go_wp2_with (go_at_call 69; go_in)
  all_goals
    go_ret
    exact ⟨ret_int (by rw [HD.out]; split <;> (try split) <;> omega), rfl⟩

theorem less_calls (ta tb : Int) (pa pb : Nat) (w : World) (a1 : -1000000000 ≤ ta) (a2 : ta ≤ 1000000000) (a3 : pa ≤ 24) (b1 : -1000000000 ≤ tb) (b2 : tb ≤ 1000000000) (b3 : pb ≤ 24) :
    Calls Tryd.prog 45 #[.agg #[.int .i64 ta, .int .i64 pa], .agg #[.int .i64 tb, .int .i64 pb]] w fun e w' => e = .returned (.bool (decide (sc ta pa < sc tb pb))) ∧ Below w.heap.size w w' := by
  have hS0 := pair_drew (pair_start w (.int .i64 ta) (.int .i64 pa) (.int .i64 tb) (.int .i64 pb) 25)
  go_enter Tryd.func45, Tryd.ntmps45
  go_wp2_with fail
  go_region_held3 (fun w' : World => w'.cell? ⟨w.heap.size, 0, none⟩ = some (.int .i64 ta) ∧ w'.cell? ⟨w.heap.size, 1, none⟩ = some (.int .i64 pa) ∧ w'.cell? ⟨w.heap.size + 1, 0, none⟩ = some (.int .i64 tb) ∧ w'.cell? ⟨w.heap.size + 1, 1, none⟩ = some (.int .i64 pb) ∧ w.heap.size + 1 < w'.heap.size ∧ Below w.heap.size w w') (first | exact hS0 | (go_split_ands; exact ⟨‹_›, ‹_›, ‹_›, ‹_›, ‹_›, ‹_›⟩) | (go_split_ands; exact pair_next hb ⟨‹_›, ‹_›, ‹_›, ‹_›, ‹_›, ‹_›⟩) | (go_split_ands; exact pair_alloc ⟨‹_›, ‹_›, ‹_›, ‹_›, ‹_›, ‹_›⟩) | (go_split_ands; refine pair_swap ?_ ⟨‹_›, ‹_›, ‹_›, ‹_›, ‹_›, ‹_›⟩; omega) | (go_split_ands; refine pair_far ?_ ⟨‹_›, ‹_›, ‹_›, ‹_›, ‹_›, ‹_›⟩; omega)) (first | (go_at_call 68; refine (scaled_calls _ _ _ ?_ ?_ ?_).mono ?_; (omega); (omega); (omega); rintro e w1 ⟨rfl, hb⟩))
  go_split_ands
  go_wp2
  go_ret
  exact ⟨rfl, by assumption⟩

theorem sc_nn_bd {t : Int} {p : Nat} (h0 : 0 ≤ t) (h1 : t ≤ 1000000) : 0 ≤ sc t p ∧ sc t p ≤ 16777216000000 := by
  have := sc_bd (t := t) (p := p) (M := 1000000) (by omega) h1
  have h2 : 0 ≤ sc t p := Int.mul_nonneg h0 (Int.le_of_lt (two_pos _))
  omega

theorem l2Floor_calls (t : Int) (p : Nat) (w : World) (h1 : -1000000000 ≤ t) (h2 : t ≤ 1000000000) (hp : p ≤ 24) : Calls Tryd.prog 71 #[.agg #[.int .i64 t, .int .i64 p]] w fun e w' => e = .returned (.int .i64 (t / 2 ^ p)) ∧ Below w.heap.size w w' := by
  have a1 : sc t p / 16777216 = t / 2 ^ p := sc_div hp
  go_enter Tryd.func71, Tryd.ntmps71
  go_wp2_with fail
  refine (scaled_calls _ _ _ h1 h2 hp).mono ?_
  rintro e w1 ⟨rfl, hb⟩
  obtain ⟨hc1, hf1⟩ := bcell hb
  have hz1 := hb.size
  (try simp at hz1)
  have hy1_0 : w.heap.size < w1.heap.size := (by omega)
  have HB1 := Lib.hid hb
  clear hb
  go_wp2_with fail
  go_ret
  refine ⟨rfl, ?_⟩
  (repeat' (first | exact Below.refl _ _ | refine Below.setCell ?_ ?_ _ | refine Below.alloc ?_ ?_ _ | refine Below.trans ?_ (HB1.out.mono ?_))) <;> (first | omega | (simp; done) | (simp; omega))

theorem div_bd {t : Int} {p : Nat} (h0 : 0 ≤ t) : 0 ≤ t / 2 ^ p ∧ t / 2 ^ p ≤ t :=
  ⟨Int.ediv_nonneg h0 (Int.le_of_lt (two_pos p)), Int.ediv_le_self _ h0⟩

theorem born_int (t : Int) (w : World) (h1 : -1000000 ≤ t) (h2 : t ≤ 1000000) : Calls Tryd.prog 53 #[.agg #[.int .i64 t, .int .i64 0]] w fun e w' => e = .returned (.int .i64 (bornD t 0)) ∧ Below w.heap.size w w' := by
  have e : bornD t 0 = (t.natAbs : Int) := by unfold bornD; rw [if_pos rfl]
  have HE := Lib.hid e
  clear e
  go_enter Tryd.func53, Tryd.ntmps53
  go_wp2_with fail
  all_goals
    go_ret
    refine ⟨ret_int (by rw [HE.out]; omega), ?_⟩
    (repeat' (first | exact Below.refl _ _ | refine Below.setCell ?_ ?_ _ | refine Below.alloc ?_ ?_ _)) <;> (first | omega | (simp; done) | (simp; omega))

theorem born_frac (t : Int) (p : Nat) (w : World) (h1 : -1000000 ≤ t) (h2 : t ≤ 1000000) (hp : 1 ≤ p) (hp2 : p ≤ 16) : Calls Tryd.prog 53 #[.agg #[.int .i64 t, .int .i64 p]] w fun e w' => e = .returned (.int .i64 (bornD t p)) ∧ Below w.heap.size w w' := by
  have p0 : ((p : Int) == 0) = false := by rw [beq_eq_false_iff_ne]; omega
  have p1 : (0 : Int) ≤ p := by omega
  have p2 : (p : Int) ≤ 64 := by omega
  have p3 : (p : Int).toNat = p := by omega
  have e : bornD t p = (t.natAbs : Int) / 2 ^ p + p + 1 := by unfold bornD; rw [if_neg (by omega)]
  have HE := Lib.hid e
  clear e
  by_cases h : t < 0
  · have hn : (t.natAbs : Int) = -t := by omega
    obtain ⟨d1, d2⟩ := div_bd (t := -t) (p := p) (by omega)
    rw [hn] at HE
    have q1 : IntKind.i64.wrap (-t / 2 ^ p + (p : Int)) = -t / 2 ^ p + (p : Int) := IntWalk.i64_in _ (by omega)
    have q2 : IntKind.i64.wrap (-t / 2 ^ p + (p : Int) + 1) = -t / 2 ^ p + (p : Int) + 1 := IntWalk.i64_in _ (by omega)
    have c1 : t < -t := by omega
    clear hn d1 d2
    go_enter Tryd.func53, Tryd.ntmps53
    go_wp2_with fail
    go_quiet (fail)
    go_wp2_with fail
    go_ret
    exact ⟨ret_int HE.out.symm, Below.drawn ((Below.refl _ _).alloc (Nat.le_refl _) _) _⟩
  · have hn : (t.natAbs : Int) = t := by omega
    obtain ⟨d1, d2⟩ := div_bd (t := t) (p := p) (by omega)
    rw [hn] at HE
    have q1 : IntKind.i64.wrap (t / 2 ^ p + (p : Int)) = t / 2 ^ p + (p : Int) := IntWalk.i64_in _ (by omega)
    have q2 : IntKind.i64.wrap (t / 2 ^ p + (p : Int) + 1) = t / 2 ^ p + (p : Int) + 1 := IntWalk.i64_in _ (by omega)
    have c1 : ¬ t < -t := by omega
    clear hn d1 d2
    go_enter Tryd.func53, Tryd.ntmps53
    go_wp2_with fail
    go_quiet (fail)
    go_wp2_with fail
    go_ret
    exact ⟨ret_int HE.out.symm, Below.drawn ((Below.refl _ _).alloc (Nat.le_refl _) _) _⟩

end Go.Proofs.YtlblkmhiildgeaaDoor
