/- spec.l2Digits, and what the reference's reading finds. -/
import Derived.Test.YtlblkmhiildgeaaDoorDyText
import Derived.Test.YtlblkmhiildgeaaDoorDyWorld
namespace Go.Proofs.YtlblkmhiildgeaaDoor
open Go.RowKit
set_option linter.unusedVariables false

/-- the number of the first digits of a text, or -1 -/
noncomputable def digD (l : List UInt8) : Int := @ite Int (allDig (l.take 9)) (Classical.propDecidable _) (valL (l.take 9) : Int) (-1)
theorem digD_yes {l : List UInt8} (h : allDig (l.take 9)) : digD l = (valL (l.take 9) : Int) := if_pos h
theorem digD_no {l : List UInt8} (h : ¬ allDig (l.take 9)) : digD l = -1 := if_neg h
theorem val9 {l : List UInt8} (h : allDig l) (hl : l.length ≤ 9) : valL l ≤ 999999999 := by
  have h1 := valL_bd l h
  have h2 : 10 ^ l.length ≤ 10 ^ 9 := Nat.pow_le_pow_right (by omega) hl
  omega
theorem digD_bd (l : List UInt8) : -1 ≤ digD l ∧ digD l ≤ 999999999 := by
  by_cases h : allDig (l.take 9)
  · have := val9 h (by rw [List.length_take]; omega)
    rw [digD_yes h]
    omega
  · rw [digD_no h]
    omega

set_option maxHeartbeats 1000000 in
theorem digits_any (t : ByteArray) (w : World) (hs : t.size ≤ 1048576) :
    Calls Tryd.prog 63 #[.string t] w fun e w' => e = .returned (.int .i64 (digD t.data.toList)) ∧ w = w' := by
  go_enter Tryd.func63, Tryd.ntmps63
  go_wp2
  go_loop [3, 4] (fun n i => ∃ k : Nat, k ≤ t.size ∧ k ≤ 9 ∧ i = .int .i64 k ∧ n = .int .i64 ((valL (t.data.toList.take k) : Nat) : Int) ∧ Hid (allDig (t.data.toList.take k))) (fun _ i => t.size - (intOf i).toNat)
  case atStart => exact ⟨0, Nat.zero_le _, by omega, rfl, rfl, Lib.hid (fun c hc => by simp at hc)⟩
  case round =>
    obtain ⟨k, hk, hk9, rfl, rfl, hd⟩ := hrel
    by_cases hlt : k < t.size
    · by_cases h9 : k < 9
      · have hmem : t[k] ∈ t.data.toList.take 9 := by
          rw [List.mem_take_iff_getElem]
          exact ⟨k, by simp; omega, rfl⟩
        by_cases hc0 : t[k].toNat < 48
        · have hn := Lib.hid (digD_no (l := t.data.toList) (fun hh => by
            have := hh t[k] hmem
            unfold isDig at this
            omega))
          have hc1 : (t[k].toNat : Int) < 48 := by omega
          clear hc0 hd hmem
          go_wp2_with fail
          go_ret
          exact ⟨ret_int (by rw [hn.out]), rfl⟩
        · by_cases hc9 : 57 < t[k].toNat
          · have hn := Lib.hid (digD_no (l := t.data.toList) (fun hh => by
              have := hh t[k] hmem
              unfold isDig at this
              omega))
            have hc1 : ¬ (t[k].toNat : Int) < 48 := by omega
            have hc2 : (57 : Int) < t[k].toNat := by omega
            clear hc0 hd hmem
            go_wp2_with fail
            go_ret
            exact ⟨ret_int (by rw [hn.out]), rfl⟩
          · have hd2 : Hid (allDig (t.data.toList.take (k + 1))) := by
              rw [take_snoc t k hlt]
              exact Lib.hid (allDig_snoc.2 ⟨hd.out, by unfold isDig; omega⟩)
            have hv : Hid (((valL (t.data.toList.take (k + 1)) : Nat) : Int) = 10 * ((valL (t.data.toList.take k) : Nat) : Int) + ((t[k].toNat : Int) - 48)) := by
              rw [take_snoc t k hlt, valL_snoc]
              exact Lib.hid (by omega)
            have hb := val9 hd.out (by rw [List.length_take]; omega)
            have hc1 : ¬ (t[k].toNat : Int) < 48 := by omega
            have hc2 : ¬ (57 : Int) < t[k].toNat := by omega
            clear hc0 hc9 hd hmem
            go_wp2_with fail
            go_round
            case rel => exact ⟨k + 1, by omega, by omega, by go_num, by rw [hv.out], hd2⟩
            case measure => simp [intOf]; omega
      · obtain rfl : k = 9 := by omega
        have hn := Lib.hid (digD_yes hd.out)
        clear hd
        go_wp2_with fail
        go_ret
        exact ⟨ret_int (by rw [hn.out]), rfl⟩
    · have hkn : k = t.size := by omega
      subst hkn
      have e : t.data.toList.take 9 = t.data.toList.take t.size := by rw [take_all, List.take_of_length_le (by simpa using hk9)]
      have hn := Lib.hid (digD_yes (l := t.data.toList) (by rw [e]; exact hd.out))
      rw [e] at hn
      clear hd e
      go_wp2_with fail
      go_ret
      exact ⟨ret_int (by rw [hn.out]), rfl⟩

/-- the top that the reference reads -/
noncomputable def topD (l : List UInt8) : Int := if l.head? = some 45 then -digD l.tail else digD l
theorem topD_bd (l : List UInt8) : -999999999 ≤ topD l ∧ topD l ≤ 999999999 := by
  unfold topD
  have h1 := digD_bd l.tail
  have h2 := digD_bd l
  split <;> omega
theorem topD_itoa {t : Int} (h1 : -1000000 ≤ t) (h2 : t ≤ 1000000) : topD (Lib.itoa t) = t := by
  unfold topD
  rcases itoa_sign t h1 h2 with ⟨_, hh, hd, hl, hv⟩ | ⟨_, hh, hd, hl, hv⟩
  · have e : (Lib.itoa t).tail.take 9 = (Lib.itoa t).tail := List.take_of_length_le (by omega)
    rw [if_pos hh, digD_yes (by rw [e]; exact hd), e]
    exact hv.symm
  · have e : (Lib.itoa t).take 9 = Lib.itoa t := List.take_of_length_le (by omega)
    rw [if_neg hh, digD_yes (by rw [e]; exact hd), e]
    exact hv.symm

/-- what the reference finds, where there is a number of that text -/
theorem spec_uniq {s : ByteArray} {t : Int} {p K : Nat} (hg : goodD t p = true) (ht : textD t p = s.data.toList)
    (h1 : (spAll s 47).length ≤ 1 → K = 0) (h2 : ∀ q, (spAll s 47)[1]? = some q → (K < 16 → bt (Lib.itoa (2 ^ K)) = q) ∧ K ≤ 16 ∧ ∀ j : Nat, j < K → bt (Lib.itoa (2 ^ j)) ≠ q) : topD (preL s.data.toList 47) = t ∧ K = p := by
  obtain ⟨a1, a2, _, a4, _⟩ := goodD_iff.1 hg
  refine ⟨by rw [← ht, preL_textD, topD_itoa a1 a2], ?_⟩
  rcases spAll_text s t p ht.symm with ⟨hp, hs⟩ | ⟨hp, hs⟩
  · rw [hp]
    exact h1 (by rw [hs]; simp)
  · obtain ⟨k1, k2, k3⟩ := h2 (bt (Lib.itoa (2 ^ p))) (by rw [hs]; rfl)
    have inj : ∀ {a b : Nat}, a ≤ 16 → b ≤ 16 → bt (Lib.itoa (2 ^ a)) = bt (Lib.itoa (2 ^ b)) → a = b := fun ha hb e => itoa_pow_inj ha hb (congrArg (fun x : ByteArray => x.data.toList) e)
    rcases Nat.lt_trichotomy K p with h | h | h
    · exact absurd (inj k2 (by omega) (k1 (by omega))) (by omega)
    · exact h
    · exact absurd rfl (k3 p h)

theorem spec_final {s : ByteArray} {r : Int × Int × Bool} {T : Int} {K : Nat} (h : ReadsD s.data.toList r) (hu : ∀ (t : Int) (p : Nat), goodD t p = true → textD t p = s.data.toList → T = t ∧ K = p) :
    (goodD T K = true → textD T K = s.data.toList → r = (T, (K : Int), true)) ∧ (¬ (goodD T K = true ∧ textD T K = s.data.toList) → r = (0, 0, false)) := by
  refine ⟨fun hg ht => ReadsD.same h (Or.inl ⟨T, K, hg, ht, rfl⟩), fun hn => ?_⟩
  rcases h with ⟨t, p, hg, ht, rfl⟩ | ⟨_, rfl⟩
  · obtain ⟨rfl, rfl⟩ := hu t p hg ht
    exact absurd ⟨hg, ht⟩ hn
  · rfl

end Go.Proofs.YtlblkmhiildgeaaDoor
