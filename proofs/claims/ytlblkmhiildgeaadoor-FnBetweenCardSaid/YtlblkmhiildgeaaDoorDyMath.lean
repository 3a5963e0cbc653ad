/- Plain facts about dyadic numbers: a top over a power of two. They speak of no program. -/
import Derived.Lib.TrailingZeros
namespace Go.Proofs.YtlblkmhiildgeaaDoor

/-- the reduced form of t over 2 to the p -/
def mkD : Int → Nat → Int × Nat
  | t, 0 => (t, 0)
  | t, p + 1 => if t % 2 = 0 then mkD (t / 2) p else (t, p + 1)

def goodD (t p : Int) : Bool := decide (-1000000 ≤ t ∧ t ≤ 1000000 ∧ 0 ≤ p ∧ p ≤ 16 ∧ (p = 0 ∨ t % 2 ≠ 0))

theorem goodD_iff {t p : Int} : goodD t p = true ↔ -1000000 ≤ t ∧ t ≤ 1000000 ∧ 0 ≤ p ∧ p ≤ 16 ∧ (p = 0 ∨ t % 2 ≠ 0) := by
  simp [goodD]

/-- a number where it is good, else nothing -/
def finD (x : Int × Nat) : Int × Int × Bool := if goodD x.1 x.2 = true then (x.1, (x.2 : Int), true) else (0, 0, false)

theorem two_pos (k : Nat) : (0 : Int) < 2 ^ k := by
  have := Nat.two_pow_pos k
  exact_mod_cast this

theorem mkD_spec : ∀ (p : Nat) (t : Int), (mkD t p).2 ≤ p ∧ (mkD t p).1 * 2 ^ (p - (mkD t p).2) = t ∧ ((mkD t p).2 = 0 ∨ (mkD t p).1 % 2 ≠ 0)
  | 0, t => by simp [mkD]
  | p + 1, t => by
    unfold mkD
    split
    · rename_i h
      obtain ⟨h1, h2, h3⟩ := mkD_spec p (t / 2)
      refine ⟨by omega, ?_, h3⟩
      rw [show p + 1 - (mkD (t / 2) p).2 = (p - (mkD (t / 2) p).2) + 1 by omega, Int.pow_succ, ← Int.mul_assoc, h2]
      omega
    · rename_i h
      exact ⟨Nat.le_refl _, by simp, Or.inr h⟩

theorem mkD_canon {t : Int} {p : Nat} (h : p = 0 ∨ t % 2 ≠ 0) : mkD t p = (t, p) := by
  cases p with
  | zero => rfl
  | succ p =>
    unfold mkD
    rw [if_neg (by omega)]

theorem mkD_double (t : Int) (p : Nat) : mkD (t * 2) (p + 1) = mkD t p := by
  rw [mkD, if_pos (by omega), show t * 2 / 2 = t by omega]

theorem mkD_scale (t : Int) (p : Nat) : ∀ j : Nat, mkD (t * 2 ^ j) (p + j) = mkD t p
  | 0 => by simp
  | j + 1 => by
    rw [Int.pow_succ, ← Int.mul_assoc, show p + (j + 1) = (p + j) + 1 by omega, mkD_double, mkD_scale t p j]

theorem mkD_neg : ∀ (p : Nat) (t : Int), mkD (-t) p = (-(mkD t p).1, (mkD t p).2)
  | 0, t => rfl
  | p + 1, t => by
    unfold mkD
    by_cases h : t % 2 = 0
    · rw [if_pos h, if_pos (by omega), show -t / 2 = -(t / 2) by omega, mkD_neg p (t / 2)]
    · rw [if_neg h, if_neg (by omega)]

theorem mkD_zero (p : Nat) : mkD 0 p = (0, 0) := by
  induction p with
  | zero => rfl
  | succ p ih => rw [mkD, if_pos (by decide)]; simpa using ih

theorem mkD_tzFrom : ∀ (p f : Nat) (t : Int) (x : Nat), p ≤ f → (x : Int) = t % 2 ^ f → mkD t p = (t / 2 ^ (min p (Lib.ctzFrom f x)), p - min p (Lib.ctzFrom f x))
  | 0, f, t, x, _, _ => by simp [mkD]
  | p + 1, 0, t, x, h, _ => by omega
  | p + 1, f + 1, t, x, h, hx => by
    have h2 : (x : Int) % 2 = t % 2 := by
      rw [hx]
      exact Int.emod_emod_of_dvd t ⟨2 ^ f, by rw [Int.pow_succ, Int.mul_comm]⟩
    unfold mkD Lib.ctzFrom
    by_cases ht : t % 2 = 0
    · rw [if_pos ht, if_neg (by omega)]
      have hx2 : ((x / 2 : Nat) : Int) = (t / 2) % 2 ^ f := by
        have e : (2 : Int) ^ (f + 1) = 2 * 2 ^ f := by rw [Int.pow_succ, Int.mul_comm]
        have e2 : t = 2 * (t / 2) := by omega
        rw [e] at hx
        have e3 : t % (2 * 2 ^ f) = 2 * ((t / 2) % 2 ^ f) := by
          conv => lhs; rw [e2]
          rw [Int.mul_emod_mul_of_pos _ _ (by decide)]
        rw [e3] at hx
        omega
      rw [mkD_tzFrom p f (t / 2) (x / 2) (by omega) hx2]
      have em : min (p + 1) (1 + Lib.ctzFrom f (x / 2)) = min p (Lib.ctzFrom f (x / 2)) + 1 := by omega
      rw [em]
      generalize min p (Lib.ctzFrom f (x / 2)) = m
      refine Prod.ext ?_ (by show p - m = p + 1 - (m + 1); omega)
      show t / 2 / 2 ^ m = t / 2 ^ (m + 1)
      rw [Int.ediv_ediv_of_nonneg (by decide), Int.pow_succ, Int.mul_comm]
    · rw [if_neg ht, if_pos (by omega)]
      simp

theorem ctzFrom_zero : ∀ f : Nat, Lib.ctzFrom f 0 = f
  | 0 => rfl
  | f + 1 => by
    unfold Lib.ctzFrom
    rw [if_neg (by decide), Nat.zero_div, ctzFrom_zero f]
    omega

/-- the reduced form, by the number of zeros at the end of a top -/
theorem mkD_tz (t : Int) (p x : Nat) (hp : p ≤ 64) (hx : (x : Int) = t % 18446744073709551616) :
    mkD t p = (t / 2 ^ (min p (Lib.ctz 64 x)), p - min p (Lib.ctz 64 x)) := by
  have h := mkD_tzFrom p 64 t x hp (by rw [hx]; rfl)
  rw [h]
  have : Lib.ctz 64 x = Lib.ctzFrom 64 x := by
    unfold Lib.ctz
    split
    · rename_i h0
      rw [h0, ctzFrom_zero]
    · rfl
  rw [this]

/-- the top of a number over 2 to the 24 -/
def sc (t : Int) (p : Nat) : Int := t * 2 ^ (24 - p)

theorem pow_split {p m n : Nat} (h : p ≤ m) (h2 : m ≤ n) : (2 : Int) ^ (n - p) = 2 ^ (m - p) * 2 ^ (n - m) := by
  rw [← Int.pow_add]
  congr 1
  omega

theorem sc_at {t : Int} {p m : Nat} (h : p ≤ m) (h2 : m ≤ 24) : sc t p = t * 2 ^ (m - p) * 2 ^ (24 - m) := by
  rw [sc, pow_split h h2, Int.mul_assoc]

theorem mkD_sum {ta tb : Int} {pa pb m : Nat} (ha : pa ≤ m) (hb : pb ≤ m) (hm : m ≤ 24) :
    mkD (ta * 2 ^ (m - pa) + tb * 2 ^ (m - pb)) m = mkD (sc ta pa + sc tb pb) 24 := by
  rw [sc_at ha hm, sc_at hb hm, ← Int.add_mul]
  have := mkD_scale (ta * 2 ^ (m - pa) + tb * 2 ^ (m - pb)) m (24 - m)
  rw [show m + (24 - m) = 24 by omega] at this
  exact this.symm

theorem mkD_sc {t : Int} {p : Nat} (h : p ≤ 24) : mkD (sc t p) 24 = mkD t p := by
  have := mkD_scale t p (24 - p)
  rw [show p + (24 - p) = 24 by omega] at this
  exact this

theorem sc_inj {ta tb : Int} {pa pb : Nat} (ha : pa ≤ 24) (hb : pb ≤ 24) (ca : pa = 0 ∨ ta % 2 ≠ 0) (cb : pb = 0 ∨ tb % 2 ≠ 0) (h : sc ta pa = sc tb pb) : ta = tb ∧ pa = pb := by
  have h1 := mkD_sc (t := ta) ha
  have h2 := mkD_sc (t := tb) hb
  rw [mkD_canon ca] at h1
  rw [mkD_canon cb] at h2
  rw [h, h2] at h1
  injection h1 with e1 e2
  exact ⟨e1.symm, e2.symm⟩

theorem sc_mkD {t : Int} {p : Nat} (h : p ≤ 24) : sc (mkD t p).1 (mkD t p).2 = sc t p := by
  obtain ⟨h1, h2, _⟩ := mkD_spec p t
  rw [sc_at h1 h, h2, sc]

theorem sc_lt {ta tb : Int} {pa pb m : Nat} (ha : pa ≤ m) (hb : pb ≤ m) (hm : m ≤ 24) : sc ta pa < sc tb pb ↔ ta * 2 ^ (m - pa) < tb * 2 ^ (m - pb) := by
  rw [sc_at ha hm, sc_at hb hm]
  exact Int.mul_lt_mul_right (two_pos _)

theorem sc_eq {ta tb : Int} {pa pb m : Nat} (ha : pa ≤ m) (hb : pb ≤ m) (hm : m ≤ 24) : sc ta pa = sc tb pb ↔ ta * 2 ^ (m - pa) = tb * 2 ^ (m - pb) := by
  rw [sc_at ha hm, sc_at hb hm]
  exact Int.mul_eq_mul_right_iff (Int.ne_of_gt (two_pos _))

theorem pow_le (k n : Nat) (h : k ≤ n) : (2 : Int) ^ k ≤ 2 ^ n := by
  have := Nat.pow_le_pow_right (n := 2) (by decide) h
  exact_mod_cast this

theorem sc_bd {t : Int} {p : Nat} {M : Int} (h : -M ≤ t) (h2 : t ≤ M) : -(M * 16777216) ≤ sc t p ∧ sc t p ≤ M * 16777216 := by
  have h1 := two_pos (24 - p)
  have h3 := pow_le (24 - p) 24 (by omega)
  have hM : 0 ≤ M := by omega
  have e : (2 : Int) ^ 24 = 16777216 := by decide
  rw [e] at h3
  have k1 : M * 2 ^ (24 - p) ≤ M * 16777216 := Int.mul_le_mul_of_nonneg_left h3 hM
  have k2 : t * 2 ^ (24 - p) ≤ M * 2 ^ (24 - p) := Int.mul_le_mul_of_nonneg_right h2 (Int.le_of_lt h1)
  have k3 : -M * 2 ^ (24 - p) ≤ t * 2 ^ (24 - p) := Int.mul_le_mul_of_nonneg_right h (Int.le_of_lt h1)
  rw [Int.neg_mul] at k3
  unfold sc
  omega

/-! ### between -/

def lowD (A : Int) (p : Nat) : Int := A / 2 ^ (24 - p) + 1
def highD (B : Int) (p : Nat) : Int := -(-B / 2 ^ (24 - p)) - 1

theorem low_le {A h : Int} {p : Nat} : lowD A p ≤ h ↔ A < h * 2 ^ (24 - p) := by
  unfold lowD
  have := Int.ediv_lt_iff_lt_mul (a := A) (b := h) (two_pos (24 - p))
  omega

theorem le_high {B h : Int} {p : Nat} : h ≤ highD B p ↔ h * 2 ^ (24 - p) < B := by
  unfold highD
  have := Int.ediv_lt_iff_lt_mul (a := -B) (b := -h) (two_pos (24 - p))
  rw [Int.neg_mul] at this
  omega

/-- the place nearest to nothing, at the first level that has one -/
def sbt (A B : Int) : Nat → Nat → Option (Int × Nat)
  | _, 0 => none
  | p, f + 1 => if lowD A p ≤ highD B p then some (max (lowD A p) (min (highD B p) 0), p) else sbt A B (p + 1) f

theorem sbt_some {A B t : Int} : ∀ {f p q : Nat}, sbt A B p f = some (t, q) → p ≤ q ∧ q < p + f ∧ lowD A q ≤ highD B q ∧ t = max (lowD A q) (min (highD B q) 0) ∧ ∀ r, p ≤ r → r < q → ¬ lowD A r ≤ highD B r
  | 0, p, q, h => by simp [sbt] at h
  | f + 1, p, q, h => by
    unfold sbt at h
    split at h
    · rename_i hc
      cases h
      exact ⟨Nat.le_refl _, by omega, hc, rfl, fun r h1 h2 => by omega⟩
    · rename_i hc
      obtain ⟨h1, h2, h3, h4, h5⟩ := sbt_some h
      refine ⟨by omega, by omega, h3, h4, fun r r1 r2 => ?_⟩
      by_cases e : r = p
      · rw [e]; exact hc
      · exact h5 r (by omega) r2

theorem sbt_none {A B : Int} : ∀ {f p : Nat}, sbt A B p f = none → ∀ r, p ≤ r → r < p + f → ¬ lowD A r ≤ highD B r
  | 0, p, h => fun r h1 h2 => by omega
  | f + 1, p, h => by
    unfold sbt at h
    split at h
    · cases h
    · rename_i hc
      intro r r1 r2
      by_cases e : r = p
      · rw [e]; exact hc
      · exact sbt_none h r (by omega) (by omega)

theorem low_neg (B : Int) (p : Nat) : lowD (-B) p = -highD B p := by unfold lowD highD; omega
theorem high_neg (A : Int) (p : Nat) : highD (-A) p = -lowD A p := by
  unfold lowD highD
  rw [Int.neg_neg]
  omega

theorem sbt_neg (A B : Int) : ∀ (f p : Nat), sbt (-B) (-A) p f = (sbt A B p f).map fun x => (-x.1, x.2)
  | 0, p => rfl
  | f + 1, p => by
    unfold sbt
    rw [low_neg, high_neg]
    by_cases h : lowD A p ≤ highD B p
    · rw [if_pos h, if_pos (by omega)]
      simp only [Option.map_some, Option.some.injEq, Prod.mk.injEq, and_true]
      omega
    · rw [if_neg h, if_neg (by omega), sbt_neg A B f (p + 1)]

/-- the simplest number between two tops over 2 to the 24; one that is not good where there is none -/
def btw (A B : Int) : Int × Nat := match sbt A B 0 17 with
  | some x => mkD x.1 x.2
  | none => (0, 17)

theorem btw_neg (A B : Int) : btw (-B) (-A) = (-(btw A B).1, (btw A B).2) := by
  unfold btw
  rw [sbt_neg]
  cases sbt A B 0 17 with
  | none => rfl
  | some x => exact mkD_neg x.2 x.1

theorem btw_mid {A B : Int} (ha : A < 0) (hb : 0 < B) : btw A B = (0, 0) := by
  have h1 : lowD A 0 ≤ 0 := low_le.2 (by simpa using ha)
  have h2 : 0 ≤ highD B 0 := le_high.2 (by simpa using hb)
  unfold btw sbt
  rw [if_pos (by omega)]
  show mkD (max (lowD A 0) (min (highD B 0) 0)) 0 = (0, 0)
  rw [show max (lowD A 0) (min (highD B 0) 0) = 0 by omega]
  rfl

theorem low_pos {A : Int} (h : 0 ≤ A) (p : Nat) : 1 ≤ lowD A p := by
  unfold lowD
  have := Int.ediv_nonneg h (Int.le_of_lt (two_pos (24 - p)))
  omega

theorem pos_top {A B : Int} (h : 0 ≤ A) (p : Nat) : max (lowD A p) (min (highD B p) 0) = lowD A p := by
  have := low_pos h p
  omega

/-! ### born -/

/-- when a number is born -/
def bornD (t : Int) (p : Nat) : Int := if p = 0 then (t.natAbs : Int) else (t.natAbs : Int) / 2 ^ p + p + 1

theorem bornD_neg (t : Int) (p : Nat) : bornD (-t) p = bornD t p := by unfold bornD; rw [Int.natAbs_neg]

theorem sc_div {t : Int} {p : Nat} (h : p ≤ 24) : sc t p / 2 ^ 24 = t / 2 ^ p := by
  rw [sc, show (2 : Int) ^ 24 = 2 ^ p * 2 ^ (24 - p) by rw [← Int.pow_add]; congr 1; omega, Int.mul_ediv_mul_of_pos_left _ _ (two_pos _)]

theorem odd_of_first {A B t : Int} {p : Nat} (hp : p < 24) (h1 : lowD A (p + 1) ≤ t) (h2 : t ≤ highD B (p + 1)) (hn : ¬ lowD A p ≤ highD B p) : t % 2 ≠ 0 := by
  intro h0
  apply hn
  rw [low_le] at h1
  rw [le_high] at h2
  have e : t * 2 ^ (24 - (p + 1)) = t / 2 * 2 ^ (24 - p) := by
    rw [show 24 - p = (24 - (p + 1)) + 1 by omega, Int.pow_succ, ← Int.mul_assoc, Int.mul_right_comm, show t / 2 * 2 = t by omega]
  rw [e] at h1 h2
  exact Int.le_trans (low_le.2 h1) (le_high.2 h2)

/-- what is at the first level is its own reduced form -/
theorem first_canon {A B t : Int} {p : Nat} (h : sbt A B 0 17 = some (t, p)) : mkD t p = (t, p) := by
  obtain ⟨_, h1, h2, h3, h4⟩ := sbt_some h
  cases p with
  | zero => rfl
  | succ p => exact mkD_canon (Or.inr (odd_of_first (by omega) (by omega) (by omega) (h4 p (by omega) (by omega))))

theorem btw_some {A B : Int} (h : (btw A B).2 ≤ 16) : ∃ t p, sbt A B 0 17 = some (t, p) ∧ btw A B = (t, p) := by
  unfold btw at h ⊢
  cases hs : sbt A B 0 17 with
  | none => rw [hs] at h; simp at h
  | some x => exact ⟨x.1, x.2, rfl, first_canon (t := x.1) (p := x.2) hs⟩

theorem btw_between {A B : Int} (h : (btw A B).2 ≤ 16) : A < sc (btw A B).1 (btw A B).2 ∧ sc (btw A B).1 (btw A B).2 < B := by
  obtain ⟨t, p, hs, hb⟩ := btw_some h
  obtain ⟨_, h1, h2, h3, h4⟩ := sbt_some hs
  rw [hb]
  show A < sc t p ∧ sc t p < B
  exact ⟨low_le.1 (by omega), le_high.1 (by omega)⟩

theorem born_pos_case {A B u : Int} {q : Nat} (hA : 0 ≤ A) (h : (btw A B).2 ≤ 16) (hq : q ≤ 16) (cu : q = 0 ∨ u % 2 ≠ 0) (h1 : A < sc u q) (h2 : sc u q < B) (hne : (u, q) ≠ btw A B) :
    bornD (btw A B).1 (btw A B).2 < bornD u q := by
  obtain ⟨t, p, hs, hb⟩ := btw_some h
  obtain ⟨_, p1, p2, p3, p4⟩ := sbt_some hs
  rw [hb] at hne ⊢
  show bornD t p < bornD u q
  rw [pos_top hA] at p3
  have hlp := low_pos hA p
  have l1 : lowD A q ≤ u := low_le.2 h1
  have l2 : u ≤ highD B q := le_high.2 h2
  have hpq : p ≤ q := by
    apply Nat.le_of_not_lt
    intro hlt
    exact p4 q (by omega) hlt (Int.le_trans l1 l2)
  have hlq := low_pos hA q
  have hu : 0 < u := by omega
  have htu : ((t.natAbs : Int)) = t := by omega
  have huu : ((u.natAbs : Int)) = u := by omega
  unfold bornD
  rw [htu, huu]
  have hAf : A / 2 ^ 24 ≤ u / 2 ^ q := by
    rw [← sc_div (by omega : q ≤ 24)]
    exact Int.ediv_le_ediv (by decide) (Int.le_of_lt h1)
  by_cases hp0 : p = 0
  · subst hp0
    rw [if_pos rfl]
    have ht : t = A / 2 ^ 24 + 1 := p3
    by_cases hq0 : q = 0
    · subst hq0
      rw [if_pos rfl]
      have : u ≠ t := fun e => hne (by rw [e])
      rw [p3] at this ⊢
      omega
    · rw [if_neg hq0]
      omega
  · rw [if_neg hp0, if_neg (by omega)]
    -- no whole number lies between
    have hn := p4 0 (by omega) (by omega)
    have hB : ¬ (A / 2 ^ 24 + 1) * 2 ^ 24 < B := by
      intro hh
      exact hn (le_high.2 hh)
    have fl : ∀ {v : Int} {r : Nat}, r ≤ 16 → A < sc v r → sc v r < B → v / 2 ^ r = A / 2 ^ 24 := by
      intro v r hr k1 k2
      rw [← sc_div (by omega : r ≤ 24)]
      have a1 : A / 2 ^ 24 ≤ sc v r / 2 ^ 24 := Int.ediv_le_ediv (by decide) (Int.le_of_lt k1)
      have a2 : sc v r / 2 ^ 24 < A / 2 ^ 24 + 1 := Int.ediv_lt_of_lt_mul (by decide) (by omega)
      omega
    have ft := fl (v := t) (r := p) (by omega) (low_le.1 (by omega)) (le_high.1 (by omega))
    have fu := fl (v := u) (r := q) hq h1 h2
    rw [ft, fu]
    by_cases hpq2 : p = q
    · exfalso
      subst hpq2
      have hut : u ≠ t := fun e => hne (by rw [e])
      obtain ⟨p', rfl⟩ : ∃ p', p = p' + 1 := ⟨p - 1, by omega⟩
      have ot : t % 2 ≠ 0 := odd_of_first (by omega) (by omega) (by omega) (p4 p' (by omega) (by omega))
      have ou : u % 2 ≠ 0 := odd_of_first (by omega) l1 l2 (p4 p' (by omega) (by omega))
      have oe : (t + 1) % 2 ≠ 0 := odd_of_first (A := A) (B := B) (by omega) (by omega) (by omega) (p4 p' (by omega) (by omega))
      omega
    · omega

/-- THE SIMPLEST NUMBER between two is born earlier than any other one there. -/
theorem born_least {A B u : Int} {q : Nat} (h : (btw A B).2 ≤ 16) (hq : q ≤ 16) (cu : q = 0 ∨ u % 2 ≠ 0) (h1 : A < sc u q) (h2 : sc u q < B) (hne : (u, q) ≠ btw A B) :
    bornD (btw A B).1 (btw A B).2 < bornD u q := by
  by_cases hA : 0 ≤ A
  · exact born_pos_case hA h hq cu h1 h2 hne
  · by_cases hB : B ≤ 0
    · have e := btw_neg A B
      have hs : sc (-u) q = -sc u q := by unfold sc; rw [Int.neg_mul]
      have := born_pos_case (A := -B) (B := -A) (u := -u) (q := q) (by omega) (by rw [e]; exact h) hq (by omega) (by omega) (by omega) (fun hh => hne (by
        rw [e] at hh
        injection hh with e1 e2
        exact Prod.ext (by show u = (btw A B).1; omega) e2))
      rw [e] at this
      rw [bornD_neg, bornD_neg] at this
      exact this
    · have e := btw_mid (A := A) (B := B) (by omega) (by omega)
      rw [e] at hne ⊢
      show bornD 0 0 < bornD u q
      unfold bornD
      rw [if_pos rfl]
      by_cases hq0 : q = 0
      · rw [if_pos hq0]
        have : u ≠ 0 := fun e => hne (by rw [e, hq0])
        omega
      · rw [if_neg hq0]
        have := Int.ediv_nonneg (a := (u.natAbs : Int)) (by omega) (Int.le_of_lt (two_pos q))
        omega

theorem good_nat {t p : Int} (h : goodD t p = true) : ∃ q : Nat, p = q ∧ q ≤ 16 ∧ -1000000 ≤ t ∧ t ≤ 1000000 ∧ (q = 0 ∨ t % 2 ≠ 0) := by
  obtain ⟨h1, h2, h3, h4, h5⟩ := goodD_iff.1 h
  obtain ⟨q, rfl⟩ := Int.eq_ofNat_of_zero_le h3
  exact ⟨q, rfl, by omega, h1, h2, by omega⟩

end Go.Proofs.YtlblkmhiildgeaaDoor
