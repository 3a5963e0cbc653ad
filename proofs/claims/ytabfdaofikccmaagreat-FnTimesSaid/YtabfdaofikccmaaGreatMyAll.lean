/- Are all forms good, and at most so many? -/
import Derived.Test.YtabfdaofikccmaaGreatFmGoodI
import Derived.Test.YtabfdaofikccmaaGreatSmM
import Derived.Test.YtabfdaofikccmaaGreatGpAll
namespace Go.Proofs.YtabfdaofikccmaaGreat
section
/-- are all forms good, and at most so many? -/
def alB (m : Nat) (Fs : List (List Nz)) : Bool := decide (Fs.length ≤ m) && Fs.all goodB

theorem alB_parts {m : Nat} {Fs : List (List Nz)} (h : alB m Fs = true) : Fs.length ≤ m ∧ ∀ f ∈ Fs, goodB f = true := by
  unfold alB at h
  rw [Bool.and_eq_true, decide_eq_true_eq, List.all_eq_true] at h
  exact h
end

section
set_option linter.unusedVariables false
set_option linter.unusedSimpArgs false

def zeroZ : List Nz := [([], [])]
/-- one game more -/
def soStep (s : List Nz × Bool) (f : List Nz) : List Nz × Bool := if s.2 && sumOk s.1 f then (sumV s.1 f, true) else ([], false)
def soF (Fs : List (List Nz)) : List Nz × Bool := Fs.foldl soStep (zeroZ, true)
theorem soF_nil : soF [] = (zeroZ, true) := rfl
theorem soF_snoc (Fs : List (List Nz)) (f : List Nz) : soF (Fs ++ [f]) = soStep (soF Fs) f := by simp [soF, List.foldl_append]
theorem soF_take {Fs : List (List Nz)} {k : Nat} {f : List Nz} (h : Fs[k]? = some f) : soF (Fs.take (k + 1)) = soStep (soF (Fs.take k)) f := by
  rw [List.take_add_one, h]
  exact soF_snoc _ _
theorem soF_yes {Fs : List (List Nz)} {k : Nat} {f : List Nz} (h : Fs[k]? = some f) (h2 : (soF (Fs.take k)).2 = true) (h3 : sumOk (soF (Fs.take k)).1 f = true) : soF (Fs.take (k + 1)) = (sumV (soF (Fs.take k)).1 f, true) := by
  rw [soF_take h]
  unfold soStep
  rw [h2, h3]
  rfl
theorem soF_stop (l : List (List Nz)) : (l.foldl soStep ([], false)).2 = false := by
  induction l with
  | nil => rfl
  | cons f l ih =>
    rw [List.foldl_cons]
    have : soStep ([], false) f = ([], false) := rfl
    rw [this]
    exact ih
theorem soF_no {Fs : List (List Nz)} {k : Nat} {f : List Nz} (h : Fs[k]? = some f) (h3 : sumOk (soF (Fs.take k)).1 f = false) : (soF Fs).2 = false := by
  have hk := get_lt h
  have e : Fs = Fs.take (k + 1) ++ Fs.drop (k + 1) := (List.take_append_drop _ _).symm
  have e2 : soF Fs = (Fs.drop (k + 1)).foldl soStep (soF (Fs.take (k + 1))) := by
    conv => lhs; rw [e]
    unfold soF
    rw [List.foldl_append]
  have e3 : soF (Fs.take (k + 1)) = ([], false) := by
    rw [soF_take h]
    unfold soStep
    rw [h3, Bool.and_false]
    rfl
  rw [e2, e3]
  exact soF_stop _
theorem soF_good (Fs : List (List Nz)) (h : (soF Fs).2 = true) : ∀ f ∈ Fs, goodB f = true := by
  intro f hf
  obtain ⟨k, hk⟩ := List.mem_iff_getElem?.1 hf
  cases hs : sumOk (soF (Fs.take k)).1 f with
  | false => rw [soF_no hk hs] at h; cases h
  | true =>
    unfold sumOk at hs
    rw [Bool.and_eq_true] at hs
    exact ((pairB_iff _ _).1 hs.1).2.1

/-- is there a sum? -/
def soOk (Fs : List (List Nz)) : Bool := decide (Fs.length ≤ 12) && (soF Fs).2
/-- the sum, or nothing -/
def soV (Fs : List (List Nz)) : List Nz := if soOk Fs then (soF Fs).1 else []
theorem soV_no {Fs : List (List Nz)} (h : soOk Fs = false) : soV Fs = [] := by unfold soV; rw [h]; rfl
theorem soV_yes {Fs : List (List Nz)} (h : soOk Fs = true) : soV Fs = (soF Fs).1 := by unfold soV; rw [h]; rfl
theorem soOk_all {Fs : List (List Nz)} (h : alB 12 Fs = false) : soOk Fs = false := by
  cases hs : soOk Fs with
  | false => rfl
  | true =>
    unfold soOk at hs
    rw [Bool.and_eq_true] at hs
    have h2 : alB 12 Fs = true := by
      unfold alB
      rw [hs.1, Bool.true_and, List.all_eq_true]
      exact soF_good Fs hs.2
    rw [h2] at h
    cases h

theorem soF_sz (Fs : List (List Nz)) : (((soF Fs).1).map szN).sum ≤ 5760 := by
  induction Fs using snocInd with
  | nil => decide
  | snoc Fs f ih =>
    rw [soF_snoc]
    unfold soStep
    split
    · exact sumV_sz _ _
    · simp
theorem soV_sz (Fs : List (List Nz)) : ((soV Fs).map szN).sum ≤ 5760 := by
  cases h : soOk Fs with
  | false => rw [soV_no h]; simp
  | true => rw [soV_yes h]; exact soF_sz Fs
end

section
set_option linter.unusedVariables false
set_option linter.unusedSimpArgs false

/-- the game, or its negative -/
def tmF (n : Int) (f : List Nz) : List Nz := if n < 0 then negV f else f
/-- that often -/
def tmL (n : Int) (f : List Nz) : List (List Nz) := List.replicate n.natAbs (tmF n f)
/-- can it be taken that often? -/
def tmIn (n : Int) (f : List Nz) : Bool := decide (-12 ≤ n ∧ n ≤ 12) && goodB f
def tmOk (n : Int) (f : List Nz) : Bool := tmIn n f && soOk (tmL n f)
def tmV (n : Int) (f : List Nz) : List Nz := if tmIn n f then soV (tmL n f) else []
theorem tmV_no {n : Int} {f : List Nz} (h : tmIn n f = false) : tmV n f = [] := by unfold tmV; rw [h]; rfl
theorem tmOk_no {n : Int} {f : List Nz} (h : tmIn n f = false) : tmOk n f = false := by unfold tmOk; rw [h]; rfl
theorem tmV_yes {n : Int} {f : List Nz} (h : tmIn n f = true) : tmV n f = soV (tmL n f) := by unfold tmV; rw [h]; rfl
theorem tmOk_yes {n : Int} {f : List Nz} (h : tmIn n f = true) : tmOk n f = soOk (tmL n f) := by unfold tmOk; rw [h]; rfl
theorem tmIn_iff (n : Int) (f : List Nz) : tmIn n f = true ↔ (-12 ≤ n ∧ n ≤ 12) ∧ goodB f = true := by
  unfold tmIn
  rw [Bool.and_eq_true, decide_eq_true_eq]
theorem tmIn_far {n : Int} {f : List Nz} (h : n < -12 ∨ 12 < n) : tmIn n f = false := by
  cases e : tmIn n f with
  | false => rfl
  | true => have := ((tmIn_iff n f).1 e).1; omega
theorem tmIn_bad {n : Int} {f : List Nz} (h : goodB f = false) : tmIn n f = false := by
  cases e : tmIn n f with
  | false => rfl
  | true => have := ((tmIn_iff n f).1 e).2; rw [h] at this; cases this
theorem tmL_neg {n : Int} {f g : List Nz} {k : Nat} (h : n < 0) (hg : negV f = g) (hk : -n = k) : tmL n f = List.replicate k g := by
  unfold tmL tmF
  rw [if_pos h, hg, show n.natAbs = k by omega]
theorem tmL_pos {n : Int} {f : List Nz} {k : Nat} (h : ¬ n < 0) (hk : n = k) : tmL n f = List.replicate k f := by
  unfold tmL tmF
  rw [if_neg h, show n.natAbs = k by omega]
theorem tmV_sz (n : Int) (f : List Nz) : ((tmV n f).map szN).sum ≤ 5760 := by
  cases h : tmIn n f with
  | false => rw [tmV_no h]; simp
  | true => rw [tmV_yes h]; exact soV_sz _
end

section
set_option linter.unusedVariables false
set_option linter.unusedSimpArgs false

theorem zero_good : goodB zeroZ = true := by decide

theorem zero_down : zeroZ.map downN = [([], [])] := by decide

theorem zero_nodes : Under [([], [])] ∧ Used [([], [])] ∧ 0 < ([([], [])] : List Nd).length := by
  have h := good_nodes zero_good
  rw [zero_down] at h
  exact h

theorem zero_sim {A : List Nd} (hA : Under A) : IsSim (sumN [([], [])] A) A (fun x y => x = y ∧ y < A.length) := by
  rintro x y ⟨rfl, hy⟩ l
  have h := optsD_sum (A := [([], [])]) (B := A) (i := 0) (j := x) (by simp) hy l
  rw [Nat.zero_mul, Nat.zero_add] at h
  have hz : optsD [([], [])] 0 l = [] := by cases l <;> rfl
  rw [h, hz]
  refine ⟨fun r hr => ?_, fun s hs => ?_⟩
  · rcases mem_sumL.1 hr with ⟨o, ho, _⟩ | ⟨o, ho, rfl⟩
    · simp at ho
    · have := optsD_lt hA ho
      exact ⟨o, ho, by omega, by omega⟩
  · have := optsD_lt hA hs
    exact ⟨s, mem_sumL.2 (Or.inr ⟨s, hs, by omega⟩), rfl, by omega⟩

theorem formM_good {f : List Nz} (h : goodB f = true) : formM (f.map downN) = f.map downN := by
  obtain ⟨h1, h2, h3, h4⟩ := (goodB_iff f).1 h
  obtain ⟨n1, n2, n3⟩ := good_nodes h
  exact formM_self h2.up.2 h3.rising n2 n3

theorem good_up {f : List Nz} (h : goodB f = true) : (f.map downN).map upN = f := ((goodB_iff f).1 h).2.1.up.1

/-- 0 and a game: the game -/
theorem zero_sum {f : List Nz} (h : goodB f = true) : sumOk zeroZ f = true ∧ sumV zeroZ f = f := by
  obtain ⟨n1, n2, n3⟩ := good_nodes h
  obtain ⟨p1, p2, p3⟩ := sum_nodes zero_nodes ⟨n1, n2, n3⟩
  have e : formM (sumN [([], [])] (f.map downN)) = f.map downN := by
    rw [formM_one p1 n1 p3 n3 p2 n2 (zero_sim n1) ⟨by rw [sumN_len]; simp, by omega⟩]
    exact formM_good h
  have hl : f.length ≤ 120 := (good_parts h).2.2.2.2.1
  have hp : pairB zeroZ f = true := (pairB_iff zeroZ f).2 ⟨zero_good, h, by unfold zeroZ; simp; omega⟩
  have hfit : fitsN (formM (sumN (zeroZ.map downN) (f.map downN))) = true := by
    have hg := good_fits (f.map downN) n1 n3 (fun k hk => reached_used n1 n2 k hk)
    rw [formM_good h, good_up h, h] at hg
    rw [zero_down, e]
    exact hg.symm
  refine ⟨by rw [sumOk_yes hp]; exact hfit, ?_⟩
  rw [sumV_yes hp, outV_yes hfit, zero_down, e]
  exact good_up h

/-- the sum of three games as the sum of many -/
theorem many_three {a b c : List Nz} (ga : goodB a = true) (h1 : sumOk a b = true) (h2 : sumOk (sumV a b) c = true) : soOk [a, b, c] = true ∧ soV [a, b, c] = sumV (sumV a b) c := by
  obtain ⟨z1, z2⟩ := zero_sum ga
  have e : soF [a, b, c] = (sumV (sumV a b) c, true) := by
    show soStep (soStep (soStep (zeroZ, true) a) b) c = _
    have s1 : soStep (zeroZ, true) a = (a, true) := by
      show (if (true && sumOk zeroZ a) then (sumV zeroZ a, true) else ([], false)) = _
      rw [z1, z2]; rfl
    have s2 : soStep (a, true) b = (sumV a b, true) := by
      show (if (true && sumOk a b) then (sumV a b, true) else ([], false)) = _
      rw [h1]; rfl
    rw [s1, s2]
    show (if (true && sumOk (sumV a b) c) then (sumV (sumV a b) c, true) else ([], false)) = _
    rw [h2]; rfl
  have ho : soOk [a, b, c] = true := by
    unfold soOk
    rw [e]
    rfl
  exact ⟨ho, by rw [soV_yes ho, e]⟩

theorem getD_swap (A : List Nd) (i : Nat) : (swapN A).getD i ([], []) = ((A.getD i ([], [])).2, (A.getD i ([], [])).1) := by
  unfold swapN
  rw [List.getD_eq_getElem?_getD, List.getD_eq_getElem?_getD, List.getElem?_map]
  cases A[i]? <;> rfl

theorem sum_swap (A B : List Nd) : sumN (swapN A) (swapN B) = swapN (sumN A B) := by
  unfold sumN
  rw [swapN_len, swapN_len]
  unfold sumAt
  simp only [getD_swap, swapN_len]
  unfold swapN
  rw [List.map_map]
  rfl

/-- the sum of negatives, one way -/
theorem neg_sum_one {a b : List Nz} (h : sumOk a b = true) : sumOk (negV a) (negV b) = true ∧ sumV (negV a) (negV b) = negV (sumV a b) := by
  obtain ⟨gs, ds, ga, gb⟩ := sum_good h
  have na := good_nodes ga
  have nb := good_nodes gb
  have nab := sum_nodes na nb
  have sa : Under (swapN (a.map downN)) ∧ Used (swapN (a.map downN)) ∧ 0 < (swapN (a.map downN)).length := ⟨swapN_under na.1, swapN_used na.2.1, by rw [swapN_len]; exact na.2.2⟩
  have sb : Under (swapN (b.map downN)) ∧ Used (swapN (b.map downN)) ∧ 0 < (swapN (b.map downN)).length := ⟨swapN_under nb.1, swapN_used nb.2.1, by rw [swapN_len]; exact nb.2.2⟩
  have sab : Under (swapN (sumN (a.map downN) (b.map downN))) ∧ Used (swapN (sumN (a.map downN) (b.map downN))) ∧ 0 < (swapN (sumN (a.map downN) (b.map downN))).length := ⟨swapN_under nab.1, swapN_used nab.2.1, by rw [swapN_len]; exact nab.2.2⟩
  have fab := form_nodes nab
  have sfab : Under (swapN (formM (sumN (a.map downN) (b.map downN)))) ∧ Used (swapN (formM (sumN (a.map downN) (b.map downN)))) ∧ 0 < (swapN (formM (sumN (a.map downN) (b.map downN)))).length := ⟨swapN_under fab.1, swapN_used fab.2.1, by rw [swapN_len]; exact fab.2.2⟩
  obtain ⟨S, hS, tS, _⟩ := formM_sim sa.1 sa.2.2 sa.2.1
  obtain ⟨T, hT, tT, _⟩ := formM_sim sb.1 sb.2.2 sb.2.1
  obtain ⟨R, hR, tR, _⟩ := formM_sim nab.1 nab.2.2 nab.2.1
  have e1 : formM (sumN (formM (swapN (a.map downN))) (formM (swapN (b.map downN)))) = formM (swapN (sumN (a.map downN) (b.map downN))) := by
    rw [← sum_swap]
    exact (formM_sum sa sb (form_nodes sa) (form_nodes sb) hS hT tS tT).symm
  have e2 : formM (swapN (sumN (a.map downN) (b.map downN))) = formM (swapN (formM (sumN (a.map downN) (b.map downN)))) :=
    formM_one sab.1 sfab.1 sab.2.2 sfab.2.2 sab.2.1 sfab.2.1 (swap_sim hR) (by rw [swapN_len, swapN_len]; exact tR)
  have hp : pairB (negV a) (negV b) = true := by
    cases hp : pairB a b with
    | false => rw [sumOk_no hp] at h; cases h
    | true => rw [pair_neg gb, pairB_turn, pair_neg ga, pairB_turn]; exact hp
  have hf := neg_fits (sumV a b) gs
  rw [ds, ← e2, ← e1] at hf
  have hf2 : fitsN (formM (sumN ((negV a).map downN) ((negV b).map downN))) = true := by rw [neg_down ga, neg_down gb]; exact hf
  refine ⟨by rw [sumOk_yes hp]; exact hf2, ?_⟩
  rw [sumV_yes hp, outV_yes hf2, neg_down ga, neg_down gb, negV_yes gs, ds, e1, e2]

/-- the sum of negatives is the sum's negative -/
theorem neg_sum {a b : List Nz} (ga : goodB a = true) (gb : goodB b = true) : sumOk (negV a) (negV b) = sumOk a b := by
  cases h : sumOk a b with
  | true => exact (neg_sum_one h).1
  | false =>
    cases h2 : sumOk (negV a) (negV b) with
    | false => rfl
    | true =>
      have h3 := (neg_sum_one h2).1
      rw [neg_neg ga, neg_neg gb, h] at h3
      cases h3

theorem neg_zero : negV zeroZ = zeroZ := by
  have h := formM_good zero_good
  rw [zero_down] at h
  rw [negV_yes zero_good, zero_down]
  show (formM [([], [])]).map upN = zeroZ
  rw [h]
  rfl

theorem soStep_yes {s : List Nz × Bool} {f : List Nz} (h : s.2 = true) (h2 : sumOk s.1 f = true) : soStep s f = (sumV s.1 f, true) := by
  unfold soStep
  rw [h, h2]
  rfl

theorem soStep_no {s : List Nz × Bool} {f : List Nz} (h : s.2 = false ∨ sumOk s.1 f = false) : soStep s f = ([], false) := by
  unfold soStep
  rcases h with h | h <;> rw [h] <;> simp

/-- so many of a negative -/
theorem so_neg {f : List Nz} (gf : goodB f = true) : ∀ k, (soF (List.replicate k (negV f))).2 = (soF (List.replicate k f)).2 ∧ ((soF (List.replicate k f)).2 = true → goodB (soF (List.replicate k f)).1 = true ∧ (soF (List.replicate k (negV f))).1 = negV (soF (List.replicate k f)).1) := by
  intro k
  induction k with
  | zero => exact ⟨rfl, fun _ => ⟨zero_good, neg_zero.symm⟩⟩
  | succ k ih =>
    rw [List.replicate_succ', List.replicate_succ', soF_snoc, soF_snoc]
    obtain ⟨i1, i2⟩ := ih
    generalize soF (List.replicate k f) = s at i1 i2 ⊢
    generalize soF (List.replicate k (negV f)) = t at i1 i2 ⊢
    cases hs : s.2 with
    | false =>
      rw [soStep_no (Or.inl hs), soStep_no (Or.inl (i1.trans hs))]
      exact ⟨rfl, fun h => by cases h⟩
    | true =>
      obtain ⟨j1, j2⟩ := i2 hs
      have hn := neg_sum j1 gf
      rw [← j2] at hn
      cases ho : sumOk s.1 f with
      | false =>
        rw [soStep_no (Or.inr ho), soStep_no (Or.inr (hn.trans ho))]
        exact ⟨rfl, fun h => by cases h⟩
      | true =>
        rw [soStep_yes hs ho, soStep_yes (i1.trans hs) (hn.trans ho)]
        refine ⟨rfl, fun _ => ⟨(sum_good ho).1, ?_⟩⟩
        rw [j2]
        exact (neg_sum_one ho).2

theorem soOk_rep {k : Nat} {f : List Nz} (hk : k ≤ 12) : soOk (List.replicate k f) = (soF (List.replicate k f)).2 := by
  unfold soOk
  rw [List.length_replicate, decide_eq_true hk, Bool.true_and]

/-- as many of a negative: the negative -/
theorem tm_turn {n : Int} {f : List Nz} (h : tmOk n f = true) (hn : n ≤ 0) : tmOk (-n) f = true ∧ goodB (tmV (-n) f) = true ∧ negV (tmV (-n) f) = tmV n f := by
  cases hi : tmIn n f with
  | false => rw [tmOk_no hi] at h; cases h
  | true =>
    obtain ⟨⟨r1, r2⟩, gf⟩ := (tmIn_iff n f).1 hi
    have hi2 : tmIn (-n) f = true := (tmIn_iff (-n) f).2 ⟨⟨by omega, by omega⟩, gf⟩
    rw [tmOk_yes hi] at h
    rw [tmOk_yes hi2, tmV_yes hi2, tmV_yes hi]
    obtain ⟨k, hk⟩ : ∃ k : Nat, -n = k := ⟨(-n).toNat, by omega⟩
    have hk12 : k ≤ 12 := by omega
    rw [tmL_pos (n := -n) (k := k) (by omega) hk]
    obtain ⟨i1, i2⟩ := so_neg gf k
    rcases Int.lt_or_eq_of_le hn with h0 | h0
    · rw [tmL_neg h0 rfl hk] at h ⊢
      rw [soOk_rep hk12] at h
      have hs := i1.symm.trans h
      obtain ⟨j1, j2⟩ := i2 hs
      have o1 : soOk (List.replicate k f) = true := by rw [soOk_rep hk12]; exact hs
      have o2 : soOk (List.replicate k (negV f)) = true := by rw [soOk_rep hk12]; exact h
      refine ⟨o1, by rw [soV_yes o1]; exact j1, ?_⟩
      rw [soV_yes o1, soV_yes o2, j2]
    · obtain rfl : k = 0 := by omega
      have o1 : soOk (List.replicate 0 f) = true := rfl
      rw [tmL_pos (n := n) (k := 0) (by omega) (by omega)]
      exact ⟨o1, by rw [soV_yes o1]; exact zero_good, by rw [soV_yes o1]; exact neg_zero⟩

/-- one more -/
theorem tm_step {n : Int} {f : List Nz} (h : tmOk n f = true) (hn : 0 < n) : tmOk (n - 1) f = true ∧ sumOk (tmV (n - 1) f) f = true ∧ sumV (tmV (n - 1) f) f = tmV n f := by
  cases hi : tmIn n f with
  | false => rw [tmOk_no hi] at h; cases h
  | true =>
    obtain ⟨⟨r1, r2⟩, gf⟩ := (tmIn_iff n f).1 hi
    have hi2 : tmIn (n - 1) f = true := (tmIn_iff (n - 1) f).2 ⟨⟨by omega, by omega⟩, gf⟩
    rw [tmOk_yes hi] at h
    rw [tmOk_yes hi2, tmV_yes hi2, tmV_yes hi]
    obtain ⟨k, hk⟩ : ∃ k : Nat, n - 1 = k := ⟨(n - 1).toNat, by omega⟩
    have hk2 : n = ((k + 1 : Nat) : Int) := by omega
    rw [tmL_pos (n := n) (k := k + 1) (by omega) hk2] at h ⊢
    rw [tmL_pos (n := n - 1) (k := k) (by omega) hk]
    have h' := h
    rw [soOk_rep (by omega), List.replicate_succ', soF_snoc] at h'
    cases hs : (soF (List.replicate k f)).2 with
    | false => rw [soStep_no (Or.inl hs)] at h'; cases h'
    | true =>
      cases ho : sumOk (soF (List.replicate k f)).1 f with
      | false => rw [soStep_no (Or.inr ho)] at h'; cases h'
      | true =>
        have o1 : soOk (List.replicate k f) = true := by rw [soOk_rep (by omega)]; exact hs
        refine ⟨o1, by rw [soV_yes o1]; exact ho, ?_⟩
        rw [soV_yes o1, soV_yes h, List.replicate_succ', soF_snoc, soStep_yes hs ho]
end

end Go.Proofs.YtabfdaofikccmaaGreat
