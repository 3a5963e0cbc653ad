/- Numerals: what they spell, and that each number within bounds has one. -/
import Derived.Test.YtlblkmhiildgeaaDoorSealMath
import Derived.Lib.AtoiAll
namespace Go.Proofs.YtlblkmhiildgeaaDoor

/-- what a row of digits spells -/
def valFrom (a : Nat) (l : List UInt8) : Nat := l.foldl (fun n c => 10 * n + (c.toNat - 48)) a
def valL (l : List UInt8) : Nat := valFrom 0 l
/-- a decimal digit -/
def isDig (c : UInt8) : Prop := 48 ≤ c.toNat ∧ c.toNat ≤ 57
def allDig (l : List UInt8) : Prop := ∀ c ∈ l, isDig c

theorem valL_snoc (l : List UInt8) (c : UInt8) : valL (l ++ [c]) = 10 * valL l + (c.toNat - 48) := by
  simp [valL, valFrom, List.foldl_append]

theorem allDig_snoc {l : List UInt8} {c : UInt8} : allDig (l ++ [c]) ↔ allDig l ∧ isDig c := by
  unfold allDig
  constructor
  · intro h
    exact ⟨fun x hx => h x (by simp [hx]), h c (by simp)⟩
  · rintro ⟨h1, h2⟩ x hx
    rcases List.mem_append.1 hx with h | h
    · exact h1 x h
    · simp at h; subst h; exact h2

theorem ofNat_dig (d : Nat) (h : d < 10) : (UInt8.ofNat (48 + d)).toNat = 48 + d := by
  simp [UInt8.toNat_ofNat']; omega

theorem isDig_ofNat (d : Nat) (h : d < 10) : isDig (UInt8.ofNat (48 + d)) := by
  unfold isDig
  rw [ofNat_dig d h]
  omega

theorem dec_dig : ∀ (k n : Nat), n ≤ k → allDig (Lib.decDigits n) ∧ valL (Lib.decDigits n) = n
  | 0, n, h => by
    obtain rfl : n = 0 := by omega
    rw [Lib.decDigits_one (by omega)]
    refine ⟨fun c hc => ?_, by decide⟩
    simp at hc
    subst hc
    exact ⟨by decide, by decide⟩
  | k + 1, n, h => by
    by_cases h10 : n < 10
    · rw [Lib.decDigits_one h10]
      refine ⟨fun c hc => ?_, ?_⟩
      · rw [List.mem_singleton] at hc
        subst hc
        exact isDig_ofNat n h10
      · show 10 * 0 + ((UInt8.ofNat (48 + n)).toNat - 48) = n
        rw [ofNat_dig n h10]
        omega
    · obtain ⟨h1, h2⟩ := dec_dig k (n / 10) (by omega)
      rw [Lib.decDigits, dif_neg h10]
      refine ⟨allDig_snoc.2 ⟨h1, isDig_ofNat _ (by omega)⟩, ?_⟩
      rw [valL_snoc, h2, ofNat_dig _ (by omega)]
      omega

theorem valL_bd : ∀ (l : List UInt8), allDig l → valL l < 10 ^ l.length := by
  intro l
  have : ∀ k (l : List UInt8), l.length = k → allDig l → valL l < 10 ^ k := by
    intro k
    induction k with
    | zero => intro l h _; rw [List.length_eq_zero_iff.1 h]; decide
    | succ k ih =>
      intro l h hd
      rcases List.eq_nil_or_concat l with rfl | ⟨m, c, rfl⟩
      · simp at h
      · rw [List.concat_eq_append] at h hd ⊢
        obtain ⟨h1, h2⟩ := allDig_snoc.1 hd
        have := ih m (by simpa using h) h1
        rw [valL_snoc, Nat.pow_succ]
        unfold isDig at h2
        omega
  exact this l.length l rfl

theorem valL_small (l : List UInt8) (h : allDig l) (hl : l.length ≤ 6) : valL l ≤ 999999 := by
  have h1 := valL_bd l h
  have h2 : 10 ^ l.length ≤ 10 ^ 6 := Nat.pow_le_pow_right (by omega) hl
  omega

/-- what stands behind a sign -/
def tlL (l : List UInt8) : List UInt8 := if 1 < l.length ∧ l.head? = some 45 then l.tail else l

theorem dec_cons (n : Nat) : ∃ c r, Lib.decDigits n = c :: r := by
  have h := Lib.decDigits_length n
  have : 0 < Lib.nDigits n := by
    by_cases h10 : n < 10
    · rw [Lib.nDigits_small h10]; omega
    · rw [Lib.nDigits_big h10]; omega
  match hd : Lib.decDigits n with
  | [] => rw [hd] at h; simp at h; omega
  | c :: r => exact ⟨c, r, rfl⟩

/-- A numeral within bounds: its digits, their number and what they spell. -/
theorem itoa_read (n : Int) (h1 : -999999 ≤ n) (h2 : n ≤ 999999) :
    allDig (tlL (Lib.itoa n)) ∧ 1 ≤ (tlL (Lib.itoa n)).length ∧ (tlL (Lib.itoa n)).length ≤ 6 ∧
      n = if (tlL (Lib.itoa n)).length < (Lib.itoa n).length then -(valL (tlL (Lib.itoa n)) : Int) else (valL (tlL (Lib.itoa n)) : Int) := by
  have hlen : ∀ k, k ≤ 999999 → (Lib.decDigits k).length ≤ 6 := fun k hk => by
    rw [Lib.decDigits_length]
    exact nDigits_le 6 k (by omega) (by omega)
  unfold Lib.itoa
  by_cases h : n < 0
  · rw [if_pos h]
    obtain ⟨c, r, hc⟩ := dec_cons n.natAbs
    obtain ⟨hd, hv⟩ := dec_dig _ n.natAbs (Nat.le_refl _)
    have hl := hlen n.natAbs (by omega)
    have ht : tlL (45 :: Lib.decDigits n.natAbs) = Lib.decDigits n.natAbs := by
      unfold tlL
      rw [if_pos ⟨by rw [hc]; simp, rfl⟩]
      rfl
    rw [ht]
    refine ⟨hd, by rw [hc]; simp, hl, ?_⟩
    rw [if_pos (by simp), hv]
    omega
  · rw [if_neg h]
    obtain ⟨c, r, hc⟩ := dec_cons n.toNat
    obtain ⟨hd, hv⟩ := dec_dig _ n.toNat (Nat.le_refl _)
    have hl := hlen n.toNat (by omega)
    have ht : tlL (Lib.decDigits n.toNat) = Lib.decDigits n.toNat := by
      unfold tlL
      rw [if_neg]
      rintro ⟨_, he⟩
      rw [hc] at he
      simp at he
      have := hd c (by rw [hc]; simp)
      rw [he] at this
      exact absurd this.1 (by decide)
    rw [ht]
    refine ⟨hd, by rw [hc]; simp, hl, ?_⟩
    rw [if_neg (by omega), hv]
    omega

theorem parse_dig : ∀ (l : List UInt8) (a j : Nat), allDig l → a < 10 ^ j → l.length + j ≤ 18 → Lib.parseUint10 a l = .ok (valFrom a l)
  | [], a, j, _, _, _ => rfl
  | c :: r, a, j, h, ha, hj => by
    have hc := h c (by simp)
    have hp : 10 ^ j ≤ 10 ^ 17 := Nat.pow_le_pow_right (by omega) (by simp at hj; omega)
    unfold isDig at hc
    unfold Lib.parseUint10
    rw [if_pos hc, if_neg (by omega), if_neg (by omega)]
    rw [parse_dig r _ (j + 1) (fun x hx => h x (by simp [hx])) (by rw [Nat.pow_succ]; omega) (by simp at hj; omega)]
    unfold valFrom
    rw [List.foldl_cons, Nat.mul_comm]

theorem atoi_itoa (n : Int) (h1 : -999999 ≤ n) (h2 : n ≤ 999999) : Lib.atoiAll (Lib.itoa n) = .ok n := by
  unfold Lib.itoa
  have hlen : ∀ k, k ≤ 999999 → (Lib.decDigits k).length ≤ 6 := fun k hk => by
    rw [Lib.decDigits_length]
    exact nDigits_le 6 k (by omega) (by omega)
  by_cases h : n < 0
  · rw [if_pos h]
    obtain ⟨c, r, hc⟩ := dec_cons n.natAbs
    obtain ⟨hd, hv⟩ := dec_dig _ n.natAbs (Nat.le_refl _)
    have hp : Lib.parseMag (Lib.decDigits n.natAbs) = .ok n.natAbs := by
      unfold Lib.parseMag
      rw [if_neg (by rw [hc]; simp), parse_dig _ 0 0 hd (by omega) (by have := hlen n.natAbs (by omega); omega)]
      exact congrArg _ hv
    unfold Lib.atoiAll
    simp only [show (45 : UInt8).toNat = 45 from rfl, or_true, if_true, hp, not_true_eq_false, false_and, if_false, true_and]
    rw [if_neg (by omega)]
    congr 1
    omega
  · rw [if_neg h]
    obtain ⟨c, r, hc⟩ := dec_cons n.toNat
    obtain ⟨hd, hv⟩ := dec_dig _ n.toNat (Nat.le_refl _)
    have hp : Lib.parseMag (Lib.decDigits n.toNat) = .ok n.toNat := by
      unfold Lib.parseMag
      rw [if_neg (by rw [hc]; simp), parse_dig _ 0 0 hd (by omega) (by have := hlen n.toNat (by omega); omega)]
      exact congrArg _ hv
    have hcd := hd c (by rw [hc]; simp)
    unfold isDig at hcd
    rw [hc] at hp ⊢
    unfold Lib.atoiAll
    have e1 : ¬ c.toNat = 43 := by omega
    have e2 : ¬ c.toNat = 45 := by omega
    simp only [e1, e2, or_self, if_false, hp, not_false_eq_true, true_and, false_and]
    rw [if_neg (by omega)]
    congr 1
    omega

theorem itoa_inj {n k : Int} (h1 : -999999 ≤ n) (h2 : n ≤ 999999) (k1 : -999999 ≤ k) (k2 : k ≤ 999999) (h : Lib.itoa n = Lib.itoa k) : n = k := by
  have e1 := atoi_itoa n h1 h2
  rw [h, atoi_itoa k k1 k2] at e1
  injection e1 with e1
  exact e1.symm

end Go.Proofs.YtlblkmhiildgeaaDoor
