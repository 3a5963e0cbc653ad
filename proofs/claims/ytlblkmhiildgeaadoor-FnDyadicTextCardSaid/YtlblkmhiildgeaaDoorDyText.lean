/- Texts of dyadic numbers: what they spell. They speak of no program. -/
import Derived.Test.YtlblkmhiildgeaaDoorReadMath
import Derived.Test.YtlblkmhiildgeaaDoorOpenMath
import Derived.Test.YtlblkmhiildgeaaDoorDyMath
namespace Go.Proofs.YtlblkmhiildgeaaDoor

/-- the text of a number -/
def textD (t : Int) (p : Nat) : List UInt8 := Lib.itoa t ++ (if p = 0 then [] else 47 :: Lib.itoa (2 ^ p))

theorem hasB_append (a b : List UInt8) (c : UInt8) : hasB (a ++ b) c = (hasB a c || hasB b c) := by
  unfold hasB
  rw [List.contains_eq_any_beq, List.contains_eq_any_beq, List.contains_eq_any_beq, List.any_append]

theorem dig_no (l : List UInt8) (h : allDig l) : hasB l 47 = false := by
  unfold hasB
  rw [← Bool.not_eq_true, List.contains_iff_mem]
  intro hm
  have := h 47 hm
  exact absurd this.1 (by decide)

theorem itoa_no (n : Int) : hasB (Lib.itoa n) 47 = false := by
  unfold Lib.itoa
  split
  · rw [show (45 :: Lib.decDigits n.natAbs) = [45] ++ Lib.decDigits n.natAbs from rfl, hasB_append, dig_no _ (dec_dig _ _ (Nat.le_refl _)).1]
    decide
  · exact dig_no _ (dec_dig _ _ (Nat.le_refl _)).1

theorem preL_no : ∀ (l : List UInt8) (b : UInt8), hasB l b = false → preL l b = l
  | [], _, _ => rfl
  | x :: l, b, h => by
    unfold hasB at h
    rw [List.contains_cons, Bool.or_eq_false_iff] at h
    have ih := preL_no l b h.2
    have hx : (x != b) = true := by
      have h1 := h.1
      rw [beq_eq_false_iff_ne] at h1
      simpa using Ne.symm h1
    unfold preL at ih ⊢
    rw [List.takeWhile_cons, hx]
    simp [ih]

theorem preL_cut : ∀ (l r : List UInt8) (b : UInt8), hasB l b = false → preL (l ++ b :: r) b = l
  | [], r, b, _ => by simp [preL]
  | x :: l, r, b, h => by
    unfold hasB at h
    rw [List.contains_cons, Bool.or_eq_false_iff] at h
    have ih := preL_cut l r b h.2
    have hx : (x != b) = true := by
      have h1 := h.1
      rw [beq_eq_false_iff_ne] at h1
      simpa using Ne.symm h1
    unfold preL at ih ⊢
    rw [List.cons_append, List.takeWhile_cons, hx]
    simp [ih]

theorem preL_textD (t : Int) (p : Nat) : preL (textD t p) 47 = Lib.itoa t := by
  unfold textD
  split
  · rw [List.append_nil, preL_no _ _ (itoa_no t)]
  · exact preL_cut _ _ _ (itoa_no t)

theorem itoa_len (n : Int) (h1 : -10000000 < n) (h2 : n < 10000000) : (Lib.itoa n).length ≤ 8 := by
  have hlen : ∀ k, k < 10000000 → (Lib.decDigits k).length ≤ 7 := fun k hk => by
    rw [Lib.decDigits_length]
    exact nDigits_le 7 k (by omega) (by omega)
  unfold Lib.itoa
  split
  · have := hlen n.natAbs (by omega)
    simp
    omega
  · have := hlen n.toNat (by omega)
    omega

theorem atoi_itoa2 (n : Int) (h1 : -10000000 < n) (h2 : n < 10000000) : Lib.atoiAll (Lib.itoa n) = .ok n := by
  unfold Lib.itoa
  have hlen : ∀ k, k < 10000000 → (Lib.decDigits k).length ≤ 7 := fun k hk => by
    rw [Lib.decDigits_length]
    exact nDigits_le 7 k (by omega) (by omega)
  by_cases h : n < 0
  · rw [if_pos h]
    obtain ⟨c, r, hc⟩ := dec_cons n.natAbs
    obtain ⟨hd, hv⟩ := dec_dig _ n.natAbs (Nat.le_refl _)
    have hp : Lib.parseMag (Lib.decDigits n.natAbs) = .ok n.natAbs := by
      unfold Lib.parseMag
      rw [if_neg (by rw [hc]; simp), parse_dig _ 0 0 hd (by omega) (by have := hlen n.natAbs (by omega); omega)]
      exact congrArg _ hv
    unfold Lib.atoiAll
    simp only [show (45 : UInt8).toNat = 45 from rfl, or_true, if_true, hp, not_true_eq_false, false_and, if_false, true_and]
    rw [if_neg (by omega)]
    congr 1
    omega
  · rw [if_neg h]
    obtain ⟨c, r, hc⟩ := dec_cons n.toNat
    obtain ⟨hd, hv⟩ := dec_dig _ n.toNat (Nat.le_refl _)
    have hp : Lib.parseMag (Lib.decDigits n.toNat) = .ok n.toNat := by
      unfold Lib.parseMag
      rw [if_neg (by rw [hc]; simp), parse_dig _ 0 0 hd (by omega) (by have := hlen n.toNat (by omega); omega)]
      exact congrArg _ hv
    have hcd := hd c (by rw [hc]; simp)
    unfold isDig at hcd
    rw [hc] at hp ⊢
    unfold Lib.atoiAll
    have e1 : ¬ c.toNat = 43 := by omega
    have e2 : ¬ c.toNat = 45 := by omega
    simp only [e1, e2, or_self, if_false, hp, not_false_eq_true, true_and, false_and]
    rw [if_neg (by omega)]
    congr 1
    omega

theorem itoa_inj2 {n k : Int} (h1 : -10000000 < n) (h2 : n < 10000000) (k1 : -10000000 < k) (k2 : k < 10000000) (h : Lib.itoa n = Lib.itoa k) : n = k := by
  have e1 := atoi_itoa2 n h1 h2
  rw [h, atoi_itoa2 k k1 k2] at e1
  injection e1 with e1
  exact e1.symm

theorem pow_bd (p : Nat) (h : p ≤ 16) : (1 : Int) ≤ 2 ^ p ∧ (2 : Int) ^ p ≤ 65536 := by
  have h1 := two_pos p
  have h2 := pow_le p 16 h
  have e : (2 : Int) ^ 16 = 65536 := by decide
  omega

theorem pow_inj {p q : Nat} (h : (2 : Int) ^ p = 2 ^ q) : p = q := by
  have h2 : 2 ^ p = 2 ^ q := by exact_mod_cast h
  rcases Nat.lt_trichotomy p q with h3 | h3 | h3
  · have := Nat.pow_lt_pow_right (by decide : 1 < 2) h3
    omega
  · exact h3
  · have := Nat.pow_lt_pow_right (by decide : 1 < 2) h3
    omega

theorem itoa_pow_inj {p q : Nat} (hp : p ≤ 16) (hq : q ≤ 16) (h : Lib.itoa (2 ^ p) = Lib.itoa (2 ^ q)) : p = q := by
  have h1 := pow_bd p hp
  have h2 := pow_bd q hq
  exact pow_inj (itoa_inj2 (by omega) (by omega) (by omega) (by omega) h)

theorem textD_inj {t u : Int} {p q : Nat} (h1 : -1000000 ≤ t) (h2 : t ≤ 1000000) (k1 : -1000000 ≤ u) (k2 : u ≤ 1000000) (hp : p ≤ 16) (hq : q ≤ 16) (h : textD t p = textD u q) : t = u ∧ p = q := by
  have e := congrArg (fun l => preL l 47) h
  simp only [preL_textD] at e
  obtain rfl := itoa_inj2 (by omega) (by omega) (by omega) (by omega) e
  refine ⟨rfl, ?_⟩
  unfold textD at h
  have h3 := List.append_cancel_left h
  by_cases p0 : p = 0
  · by_cases q0 : q = 0
    · omega
    · rw [if_pos p0, if_neg q0] at h3
      cases h3
  · by_cases q0 : q = 0
    · rw [if_neg p0, if_pos q0] at h3
      cases h3
    · rw [if_neg p0, if_neg q0] at h3
      injection h3 with _ h4
      exact itoa_pow_inj hp hq h4

theorem textD_len (t : Int) (p : Nat) (h1 : -1000000 ≤ t) (h2 : t ≤ 1000000) (hp : p ≤ 16) : (textD t p).length ≤ 17 := by
  unfold textD
  have a := itoa_len t (by omega) (by omega)
  have hb := pow_bd p hp
  have b := itoa_len (2 ^ p) (by omega) (by omega)
  split
  · simp; omega
  · simp; omega

/-! ### what is split -/

theorem spSt_no (s : ByteArray) (b : UInt8) : ∀ k, (∀ j, j < k → s.data.toList[j]? ≠ some b) → spSt s b k = ([], 0)
  | 0, _ => rfl
  | k + 1, h => by
    rw [spSt, if_neg (h k (by omega)), spSt_no s b k (fun j hj => h j (by omega))]

theorem getElem_no {l : List UInt8} {b : UInt8} (h : hasB l b = false) (j : Nat) : l[j]? ≠ some b := by
  intro e
  unfold hasB at h
  rw [← Bool.not_eq_true, List.contains_iff_mem] at h
  exact h (List.mem_of_getElem? e)

theorem spAll_one (s : ByteArray) (a : List UInt8) (h : s.data.toList = a) (ha : hasB a 47 = false) : spAll s 47 = [⟨a.toArray⟩] := by
  unfold spAll
  rw [spSt_no s 47 s.size (fun j _ => by rw [h]; exact getElem_no ha j)]
  show [s.extract 0 s.size] = _
  rw [ba_eta (s.extract 0 s.size), Lib.extract_from_zero, take_all, h]

theorem spSt_after (s : ByteArray) (a b : List UInt8) (h : s.data.toList = a ++ 47 :: b) (ha : hasB a 47 = false) (hb : hasB b 47 = false) : ∀ k, spSt s 47 (a.length + 1 + k) = ([⟨a.toArray⟩], a.length + 1)
  | 0 => by
    rw [Nat.add_zero, spSt, if_pos (by rw [h]; simp), spSt_no s 47 a.length (fun j hj => by
      rw [h, List.getElem?_append_left hj]
      exact getElem_no ha j)]
    show ([s.extract 0 a.length], a.length + 1) = _
    rw [ba_eta (s.extract 0 a.length), Lib.extract_from_zero, h]
    simp
  | k + 1 => by
    rw [show a.length + 1 + (k + 1) = (a.length + 1 + k) + 1 by omega, spSt, if_neg, spSt_after s a b h ha hb k]
    rw [h, List.getElem?_append_right (by omega), show a.length + 1 + k - a.length = k + 1 by omega, List.getElem?_cons_succ]
    exact getElem_no hb k

theorem spAll_two (s : ByteArray) (a b : List UInt8) (h : s.data.toList = a ++ 47 :: b) (ha : hasB a 47 = false) (hb : hasB b 47 = false) : spAll s 47 = [⟨a.toArray⟩, ⟨b.toArray⟩] := by
  have hz : s.size = a.length + 1 + b.length := by
    have := congrArg List.length h
    simp at this
    omega
  unfold spAll
  rw [hz, spSt_after s a b h ha hb]
  show [⟨a.toArray⟩, s.extract (a.length + 1) (a.length + 1 + b.length)] = _
  rw [← hz, ba_eta (s.extract (a.length + 1) s.size), Lib.extract_to_end, h]
  simp

/-- What a number's text is split into. -/
theorem spAll_text (s : ByteArray) (t : Int) (p : Nat) (h : s.data.toList = textD t p) :
    (p = 0 ∧ spAll s 47 = [⟨(Lib.itoa t).toArray⟩]) ∨ (p ≠ 0 ∧ spAll s 47 = [⟨(Lib.itoa t).toArray⟩, ⟨(Lib.itoa (2 ^ p)).toArray⟩]) := by
  unfold textD at h
  by_cases hp : p = 0
  · rw [if_pos hp, List.append_nil] at h
    exact Or.inl ⟨hp, spAll_one s _ h (itoa_no t)⟩
  · rw [if_neg hp] at h
    exact Or.inr ⟨hp, spAll_two s _ _ h (itoa_no t) (itoa_no _)⟩

/-! ### the number of a text -/

/-- the good number whose text this is, or nothing -/
def ReadsD (l : List UInt8) (r : Int × Int × Bool) : Prop :=
  (∃ (t : Int) (p : Nat), goodD t p = true ∧ textD t p = l ∧ r = (t, (p : Int), true)) ∨ ((∀ (t : Int) (p : Nat), goodD t p = true → textD t p ≠ l) ∧ r = (0, 0, false))

theorem ReadsD.same {l : List UInt8} {r r' : Int × Int × Bool} (h : ReadsD l r) (h' : ReadsD l r') : r = r' := by
  rcases h with ⟨t, p, g, e, rfl⟩ | ⟨hn, rfl⟩
  · rcases h' with ⟨u, q, g', e', rfl⟩ | ⟨hn', rfl⟩
    · obtain ⟨a1, a2, a3, a4, _⟩ := goodD_iff.1 g
      obtain ⟨b1, b2, b3, b4, _⟩ := goodD_iff.1 g'
      obtain ⟨rfl, rfl⟩ := textD_inj a1 a2 b1 b2 (by omega) (by omega) (e.trans e'.symm)
      rfl
    · exact absurd e (hn' t p g)
  · rcases h' with ⟨u, q, g', e', rfl⟩ | ⟨hn', rfl⟩
    · exact absurd e' (hn u q g')
    · rfl

/-- the first bytes of a numeral, by its sign -/
theorem itoa_sign (t : Int) (h1 : -1000000 ≤ t) (h2 : t ≤ 1000000) :
    (t < 0 ∧ (Lib.itoa t).head? = some 45 ∧ allDig (Lib.itoa t).tail ∧ (Lib.itoa t).tail.length ≤ 7 ∧ t = -(valL (Lib.itoa t).tail : Int)) ∨
      (0 ≤ t ∧ (Lib.itoa t).head? ≠ some 45 ∧ allDig (Lib.itoa t) ∧ (Lib.itoa t).length ≤ 7 ∧ t = (valL (Lib.itoa t) : Int)) := by
  have hlen : ∀ k, k < 10000000 → (Lib.decDigits k).length ≤ 7 := fun k hk => by
    rw [Lib.decDigits_length]
    exact nDigits_le 7 k (by omega) (by omega)
  unfold Lib.itoa
  by_cases h : t < 0
  · left
    rw [if_pos h]
    obtain ⟨hd, hv⟩ := dec_dig _ t.natAbs (Nat.le_refl _)
    refine ⟨h, rfl, hd, hlen _ (by omega), ?_⟩
    rw [List.tail_cons, hv]
    omega
  · right
    rw [if_neg h]
    obtain ⟨c, r, hc⟩ := dec_cons t.toNat
    obtain ⟨hd, hv⟩ := dec_dig _ t.toNat (Nat.le_refl _)
    refine ⟨by omega, ?_, hd, hlen _ (by omega), by rw [hv]; omega⟩
    have hcd := hd c (by rw [hc]; simp)
    unfold isDig at hcd
    rw [hc]
    intro e
    simp at e
    rw [e] at hcd
    exact absurd hcd.1 (by decide)

/-- a text, as the programs hold it -/
def bt (l : List UInt8) : ByteArray := ⟨l.toArray⟩
theorem bt_text0 (t : Int) : bt (Lib.itoa t) = bt (textD t 0) := by unfold textD; rw [if_pos rfl, List.append_nil]
theorem bt_text (t : Int) (p : Nat) (h : p ≠ 0) : bt (Lib.itoa t) ++ (⟨#[47]⟩ : ByteArray) ++ bt (Lib.itoa (2 ^ p)) = bt (textD t p) := by
  unfold textD bt
  rw [if_neg h]
  apply ByteArray.ext
  simp
theorem bt_len {l : List UInt8} {n : Nat} (h : l.length ≤ n) : (bt l).size ≤ n := by
  show l.toArray.size ≤ n
  simpa using h

end Go.Proofs.YtlblkmhiildgeaaDoor
