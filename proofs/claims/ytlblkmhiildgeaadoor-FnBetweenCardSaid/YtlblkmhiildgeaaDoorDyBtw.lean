/- Plain facts on the simplest number between two. They speak of no program. -/
import Derived.Test.YtlblkmhiildgeaaDoorDyMath
namespace Go.Proofs.YtlblkmhiildgeaaDoor

/-- the greatest whole number at a level that is at most a number -/
def flo (t : Int) (p m : Nat) : Int := if m < p then t / 2 ^ (p - m) else t * 2 ^ (m - p)

theorem flo_eq {t : Int} {p m : Nat} (hp : p ≤ 24) (hm : m ≤ 24) : flo t p m = sc t p / 2 ^ (24 - m) := by
  unfold flo sc
  split
  · rename_i h
    rw [show (2 : Int) ^ (24 - m) = 2 ^ (p - m) * 2 ^ (24 - p) by rw [← Int.pow_add]; congr 1; omega, Int.mul_ediv_mul_of_pos_left _ _ (two_pos _)]
  · rename_i h
    rw [pow_split (by omega : p ≤ m) hm, ← Int.mul_assoc, Int.mul_ediv_cancel _ (Int.ne_of_gt (two_pos _))]

theorem ediv_bd {A : Int} {k : Nat} {M : Int} (h1 : -M ≤ A) (h2 : A ≤ M) : -M ≤ A / 2 ^ k ∧ A / 2 ^ k ≤ M := by
  have hp := two_pos k
  constructor
  · rw [Int.le_ediv_iff_mul_le hp]
    have : (-M) * 2 ^ k ≤ -M := by
      have hM : 0 ≤ M := by omega
      have h3 : M * 1 ≤ M * 2 ^ k := Int.mul_le_mul_of_nonneg_left (by omega) hM
      rw [Int.neg_mul]
      omega
    omega
  · by_cases h0 : 0 ≤ A
    · have := Int.ediv_le_self (2 ^ k) h0
      omega
    · have : A / 2 ^ k < 0 := Int.ediv_neg_of_neg_of_pos (by omega) hp
      omega

theorem lev_bd2 {t : Int} {k : Nat} (h1 : -1000000 ≤ t) (h2 : t ≤ 1000000) (hm : k ≤ 16) : -65536000000 ≤ t * 2 ^ k ∧ t * 2 ^ k ≤ 65536000000 := by
  have a := two_pos k
  have b := pow_le k 16 hm
  have e : (2 : Int) ^ 16 = 65536 := by decide
  rw [e] at b
  have c1 : 1000000 * (2 : Int) ^ k ≤ 1000000 * 65536 := Int.mul_le_mul_of_nonneg_left b (by decide)
  have c2 : t * 2 ^ k ≤ 1000000 * 2 ^ k := Int.mul_le_mul_of_nonneg_right h2 (Int.le_of_lt a)
  have c3 : -1000000 * 2 ^ k ≤ t * 2 ^ k := Int.mul_le_mul_of_nonneg_right h1 (Int.le_of_lt a)
  rw [Int.neg_mul] at c3
  omega

theorem flo_bd {t : Int} {p m : Nat} (h1 : -1000000 ≤ t) (h2 : t ≤ 1000000) (hm : m ≤ 16) : -65536000000 ≤ flo t p m ∧ flo t p m ≤ 65536000000 := by
  unfold flo
  split
  · have := ediv_bd (k := p - m) h1 h2
    omega
  · exact lev_bd2 h1 h2 (by omega)

theorem sc_neg (t : Int) (p : Nat) : sc (-t) p = -sc t p := by unfold sc; rw [Int.neg_mul]

theorem mkD_near {t M : Int} {p : Nat} (h1 : -M ≤ t) (h2 : t ≤ M) : -M ≤ (mkD t p).1 ∧ (mkD t p).1 ≤ M := by
  obtain ⟨_, h, _⟩ := mkD_spec p t
  generalize (mkD t p).1 = x at h ⊢
  have hp : (1 : Int) ≤ 2 ^ (p - (mkD t p).2) := two_pos _
  generalize (2 : Int) ^ (p - (mkD t p).2) = q at h hp
  constructor
  · by_cases hx : x < 0
    · have : x * q ≤ x * 1 := Int.mul_le_mul_of_nonpos_left (by omega) hp
      omega
    · omega
  · by_cases hx : 0 < x
    · have : x * 1 ≤ x * q := Int.mul_le_mul_of_nonneg_left hp (by omega)
      omega
    · omega

theorem btw_bd {A B M : Int} (a1 : -M ≤ A) (a2 : A ≤ M) (b1 : -M ≤ B) (b2 : B ≤ M) : -(M + 1) ≤ (btw A B).1 ∧ (btw A B).1 ≤ M + 1 := by
  unfold btw
  cases hs : sbt A B 0 17 with
  | none => simp; omega
  | some x =>
    obtain ⟨t, p⟩ := x
    obtain ⟨_, _, h2, h3, _⟩ := sbt_some hs
    have l := ediv_bd (k := 24 - p) a1 a2
    have r := ediv_bd (A := -B) (k := 24 - p) (M := M) (by omega) (by omega)
    have hl : lowD A p = A / 2 ^ (24 - p) + 1 := rfl
    have hr : highD B p = -(-B / 2 ^ (24 - p)) - 1 := rfl
    exact mkD_near (by omega) (by omega)

/-- a first level that serves -/
theorem sbt_yes {A B : Int} {k : Nat} (hk : k < 17) (h : sbt A B 0 17 = sbt A B k (17 - k)) (hc : lowD A k ≤ highD B k) : btw A B = mkD (max (lowD A k) (min (highD B k) 0)) k := by
  unfold btw
  rw [h, show 17 - k = (16 - k) + 1 by omega, sbt, if_pos hc]

theorem sbt_next {A B : Int} {k : Nat} (hk : k < 17) (h : sbt A B 0 17 = sbt A B k (17 - k)) (hc : ¬ lowD A k ≤ highD B k) : sbt A B 0 17 = sbt A B (k + 1) (17 - (k + 1)) := by
  rw [h, show 17 - k = (17 - (k + 1)) + 1 by omega, sbt, if_neg hc]

theorem sbt_end {A B : Int} (h : sbt A B 0 17 = sbt A B 17 (17 - 17)) : btw A B = (0, 17) := by
  unfold btw
  rw [h]
  rfl

theorem fin_end : finD (0, 17) = (0, 0, false) := by decide

end Go.Proofs.YtlblkmhiildgeaaDoor
