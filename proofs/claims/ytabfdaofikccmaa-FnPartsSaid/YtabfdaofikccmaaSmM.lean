/- The negative of a form: mathematics. -/
import Derived.Test.YtabfdaofikccmaaInOf
import Derived.Test.YtabfdaofikccmaaFmPartL
import Derived.Test.YtabfdaofikccmaaInMath
namespace Go.Proofs.Ytabfdaofikccmaa
section
section
set_option linter.unusedVariables false
set_option linter.unusedSimpArgs false
def swapN (P : List Nd) : List Nd := P.map (fun nd => (nd.2, nd.1))
theorem swapN_len (P : List Nd) : (swapN P).length = P.length := by simp [swapN]
theorem swapN_at {P : List Nd} {k : Nat} {nd : Nd} (h : P[k]? = some nd) : (swapN P)[k]? = some (nd.2, nd.1) := by unfold swapN; rw [List.getElem?_map, h]; rfl
theorem swapN_get {P : List Nd} {k : Nat} {nd : Nd} (h : (swapN P)[k]? = some nd) : P[k]? = some (nd.2, nd.1) := by
  unfold swapN at h
  rw [List.getElem?_map] at h
  cases hx : P[k]? with
  | none => rw [hx] at h; cases h
  | some x => rw [hx] at h; simp only [Option.map_some, Option.some.injEq] at h; subst h; rfl
theorem swapN_under {P : List Nd} (h : Under P) : Under (swapN P) := fun k nd hk x hx => h k _ (swapN_get hk) x hx.symm
theorem swapN_used {P : List Nd} (h : Used P) : Used (swapN P) := fun i hi => by
  obtain ⟨k, nd, hk, hx⟩ := h i (by rw [swapN_len] at hi; exact hi)
  exact ⟨k, _, swapN_at hk, hx.symm⟩
theorem swapN_reach {P : List Nd} (hu : Under P) (h : Used P) (k : Nat) (hk : k < (swapN P).length) : Reached (swapN P) ((swapN P).length - 1) k := reached_used (swapN_under hu) (swapN_used h) k hk
/-- a form in order is no greater than the nodes that it is made of -/
theorem canon_fits {P : List Nd} {b : Nat → Nat} {out : List Nd} {pl : Nat → Nat} (h : Canon P b (fun _ => True) out pl) (hp : ∀ nd ∈ P, nd.1.length ≤ 24 ∧ nd.2.length ≤ 24) : out.length ≤ P.length ∧ ∀ nd ∈ out, nd.1.length ≤ 24 ∧ nd.2.length ≤ 24 := by
  have hsl : ∀ (l : List Nat), (sortd l).length ≤ l.length := fun l => by
    have hn : (sortd l).Nodup := (sortd_asc l).imp (fun h => Nat.ne_of_lt h)
    exact hn.length_le_of_subset (fun x hx => (mem_sortd l x).1 hx)
  constructor
  · have hn : (List.range out.length).Nodup := List.nodup_range
    have := hn.length_le_of_subset (l₂ := (List.range P.length).map pl) (fun i hi => by
      obtain ⟨k, h1, _, h3⟩ := h.from' i (by simpa using hi)
      exact List.mem_map.2 ⟨k, by simpa using h1, h3⟩)
    simpa using this
  · intro nd hnd
    obtain ⟨i, hi⟩ := List.mem_iff_getElem?.1 hnd
    obtain ⟨k, h1, _, h3⟩ := h.from' i (get_lt hi)
    obtain ⟨m, hm⟩ := lt_get h1
    have := h.node k m hm trivial
    rw [h3, hi] at this
    injection this with this
    subst this
    have := hp m (List.mem_of_getElem? hm)
    unfold movd
    have a1 := hsl (m.1.map pl)
    have a2 := hsl (m.2.map pl)
    simp only [List.length_map] at a1 a2
    exact ⟨by show (sortd (m.1.map pl)).length ≤ 24; omega, by show (sortd (m.2.map pl)).length ≤ 24; omega⟩
/-- the negative of a good form is one -/
theorem neg_fits (f : List Nz) (hg : goodB f = true) : fitsN (formM (swapN (f.map downN))) = true := by
  obtain ⟨h1, h2, h3, h4⟩ := (goodB_iff f).1 hg
  have hu := h2.up.2.under
  have hl : 0 < (swapN (f.map downN)).length := by rw [swapN_len]; simpa using h1.1
  obtain ⟨⟨pl, hc⟩, hs, _, _⟩ := formM_canon _ (swapN_under hu) hl (swapN_reach hu h4)
  have hf := canon_fits hc (fun nd hnd => by
    unfold swapN at hnd
    rw [List.map_map] at hnd
    obtain ⟨x, hx, rfl⟩ := List.mem_map.1 hnd
    have := h1.2.2 x hx
    simp only [Function.comp, downN, downL, List.length_map]
    exact ⟨this.2, this.1⟩)
  have hpos : 0 < (formM (swapN (f.map downN))).length := by
    obtain ⟨nd, hnd⟩ := lt_get hl
    exact Nat.lt_of_le_of_lt (Nat.zero_le _) (get_lt (hc.node 0 nd hnd trivial))
  unfold fitsN
  simp only [Bool.and_eq_true, decide_eq_true_eq, List.all_eq_true]
  have := h1.2.1
  rw [swapN_len, List.length_map] at hf
  exact ⟨hpos, by omega, fun nd hnd => by simpa using hf.2 nd hnd⟩
/-- the negative, or nothing -/
def negV (f : List Nz) : List Nz := if goodB f then (formM (swapN (f.map downN))).map upN else []
theorem negV_yes {f : List Nz} (h : goodB f = true) : negV f = (formM (swapN (f.map downN))).map upN := by unfold negV; rw [h]; rfl
end

section
open Go.RowKit
set_option linter.unusedVariables false
set_option linter.unusedSimpArgs false
theorem form_is (P : List Nd) : (fo (addF [] P).1 ((addF [] P).2.getD (P.length - 1) 0) (bOf (addF [] P).1 ((addF [] P).2.getD (P.length - 1) 0) + 1)).2 = formM P := rfl
theorem take_snoc' {α : Type} {P : List α} {k : Nat} {nd : α} (h : P[k]? = some nd) : P.take (k + 1) = P.take k ++ [nd] := by rw [List.take_add_one, h]; rfl
theorem at_lt' (P : List Nd) (hu : Under P) (i : Nat) (hi : i < P.length) : (addF [] P).2.getD i 0 < (addF [] P).1.length := by
  have ha := addF_added [] book_nil P hu
  obtain ⟨n0, hn0⟩ := lt_get hi
  exact get_lt (ha.node i n0 hn0)
end
end
section
set_option linter.unusedVariables false
set_option linter.unusedSimpArgs false
/-- the options of a pair on one side -/
def sumLP (n i j : Nat) (a b : List Nat) : List Nat := a.map (fun o => o * n + j) ++ b.map (fun o => i * n + o)
/-- a pair of nodes -/
def sumAt (A B : List Nd) (i j : Nat) : Nd := (sumLP B.length i j (A.getD i ([], [])).1 (B.getD j ([], [])).1, sumLP B.length i j (A.getD i ([], [])).2 (B.getD j ([], [])).2)
def sumN (A B : List Nd) : List Nd := (List.range (A.length * B.length)).map (fun k => sumAt A B (k / B.length) (k % B.length))
theorem sumN_len (A B : List Nd) : (sumN A B).length = A.length * B.length := by simp [sumN]
theorem div_pair {n i j : Nat} (hj : j < n) : (i * n + j) / n = i ∧ (i * n + j) % n = j := by
  have h0 : 0 < n := by omega
  constructor
  · rw [Nat.mul_comm, Nat.mul_add_div h0, Nat.div_eq_of_lt hj, Nat.add_zero]
  · rw [Nat.mul_comm, Nat.mul_add_mod, Nat.mod_eq_of_lt hj]
theorem pair_lt {m n i j : Nat} (hi : i < m) (hj : j < n) : i * n + j < m * n := by
  have : (i + 1) * n ≤ m * n := Nat.mul_le_mul_right n hi
  rw [Nat.add_mul] at this
  omega
theorem sumN_at {A B : List Nd} {i j : Nat} (hi : i < A.length) (hj : j < B.length) : (sumN A B)[i * B.length + j]? = some (sumAt A B i j) := by
  unfold sumN
  rw [List.getElem?_map, List.getElem?_range (pair_lt hi hj)]
  simp only [Option.map_some]
  rw [(div_pair hj).1, (div_pair hj).2]
theorem pair_of {m n k : Nat} (hk : k < m * n) : ∃ i j, i < m ∧ j < n ∧ k = i * n + j := by
  have h0 : 0 < n := by
    rcases Nat.eq_zero_or_pos n with h | h
    · subst h; simp at hk
    · exact h
  refine ⟨k / n, k % n, ?_, Nat.mod_lt _ h0, ?_⟩
  · rw [Nat.div_lt_iff_lt_mul h0]; exact hk
  · rw [Nat.mul_comm]; exact (Nat.div_add_mod k n).symm
theorem mem_sumL {n i j x : Nat} {a b : List Nat} : x ∈ sumLP n i j a b ↔ (∃ o ∈ a, x = o * n + j) ∨ ∃ o ∈ b, x = i * n + o := by
  unfold sumLP
  simp only [List.mem_append, List.mem_map]
  constructor
  · rintro (⟨o, h, e⟩ | ⟨o, h, e⟩)
    · exact Or.inl ⟨o, h, e.symm⟩
    · exact Or.inr ⟨o, h, e.symm⟩
  · rintro (⟨o, h, e⟩ | ⟨o, h, e⟩)
    · exact Or.inl ⟨o, h, e.symm⟩
    · exact Or.inr ⟨o, h, e.symm⟩
theorem sumN_under {A B : List Nd} (ha : Under A) (hb : Under B) : Under (sumN A B) := by
  intro k nd hk x hx
  have hkl := get_lt hk
  rw [sumN_len] at hkl
  obtain ⟨i, j, hi, hj, rfl⟩ := pair_of hkl
  rw [sumN_at hi hj] at hk
  injection hk with hk
  subst hk
  obtain ⟨na, hna⟩ := lt_get hi
  obtain ⟨nb, hnb⟩ := lt_get hj
  unfold sumAt at hx
  rw [getD_at hna, getD_at hnb] at hx
  simp only [mem_sumL] at hx
  have key1 : ∀ o, o ∈ na.1 ∨ o ∈ na.2 → o * B.length + j < i * B.length + j := fun o ho => by
    have := ha i na hna o ho
    have : (o + 1) * B.length ≤ i * B.length := Nat.mul_le_mul_right _ this
    rw [Nat.add_mul] at this
    omega
  have key2 : ∀ o, o ∈ nb.1 ∨ o ∈ nb.2 → i * B.length + o < i * B.length + j := fun o ho => by
    have := hb j nb hnb o ho
    omega
  rcases hx with (⟨o, ho, rfl⟩ | ⟨o, ho, rfl⟩) | (⟨o, ho, rfl⟩ | ⟨o, ho, rfl⟩)
  · exact key1 o (Or.inl ho)
  · exact key2 o (Or.inl ho)
  · exact key1 o (Or.inr ho)
  · exact key2 o (Or.inr ho)
theorem sumN_used {A B : List Nd} (ha : Used A) (hb : Used B) : Used (sumN A B) := by
  intro k hk
  rw [sumN_len] at hk
  obtain ⟨i, j, hi, hj, rfl⟩ := pair_of (m := A.length) (n := B.length) (k := k) (by omega)
  by_cases h1 : i + 1 < A.length
  · obtain ⟨i', na, hna, hx⟩ := ha i h1
    have hi' := get_lt hna
    obtain ⟨nb, hnb⟩ := lt_get hj
    refine ⟨_, _, sumN_at hi' hj, ?_⟩
    unfold sumAt
    rw [getD_at hna]
    simp only [mem_sumL]
    rcases hx with hx | hx
    · exact Or.inl (Or.inl ⟨i, hx, rfl⟩)
    · exact Or.inr (Or.inl ⟨i, hx, rfl⟩)
  · have h2 : j + 1 < B.length := by
      rcases Nat.lt_or_ge (j + 1) B.length with h | h
      · exact h
      · exfalso
        have e1 : i = A.length - 1 := by omega
        have e2 : j = B.length - 1 := by omega
        have : (A.length - 1 + 1) * B.length = A.length * B.length := by rw [Nat.sub_add_cancel (by omega)]
        rw [Nat.add_mul] at this
        subst e1 e2
        omega
    obtain ⟨j', nb, hnb, hx⟩ := hb j h2
    have hj' := get_lt hnb
    refine ⟨_, _, sumN_at hi hj', ?_⟩
    unfold sumAt
    rw [getD_at hnb]
    simp only [mem_sumL]
    rcases hx with hx | hx
    · exact Or.inl (Or.inr ⟨j, hx, rfl⟩)
    · exact Or.inr (Or.inr ⟨j, hx, rfl⟩)
theorem sumN_reach {A B : List Nd} (ha : Under A) (hb : Under B) (hua : Used A) (hub : Used B) (k : Nat) (hk : k < (sumN A B).length) : Reached (sumN A B) ((sumN A B).length - 1) k := reached_used (sumN_under ha hb) (sumN_used hua hub) k hk
theorem sumAt_small {A B : List Nd} {i j m : Nat} (ha : ∀ nd ∈ A, nd.1.length ≤ m ∧ nd.2.length ≤ m) (hb : ∀ nd ∈ B, nd.1.length ≤ m ∧ nd.2.length ≤ m) (hi : i < A.length) (hj : j < B.length) : (sumAt A B i j).1.length ≤ m + m ∧ (sumAt A B i j).2.length ≤ m + m := by
  obtain ⟨na, hna⟩ := lt_get hi
  obtain ⟨nb, hnb⟩ := lt_get hj
  have h1 := ha na (List.mem_of_getElem? hna)
  have h2 := hb nb (List.mem_of_getElem? hnb)
  unfold sumAt sumLP
  rw [getD_at hna, getD_at hnb]
  simp only [List.length_append, List.length_map]
  omega
theorem sumN_small {A B : List Nd} {m : Nat} (ha : ∀ nd ∈ A, nd.1.length ≤ m ∧ nd.2.length ≤ m) (hb : ∀ nd ∈ B, nd.1.length ≤ m ∧ nd.2.length ≤ m) : ∀ nd ∈ sumN A B, nd.1.length ≤ m + m ∧ nd.2.length ≤ m + m := fun nd hnd => by
  obtain ⟨k, hk⟩ := List.mem_iff_getElem?.1 hnd
  have hkl := get_lt hk
  rw [sumN_len] at hkl
  obtain ⟨i, j, hi, hj, rfl⟩ := pair_of hkl
  rw [sumN_at hi hj] at hk
  injection hk with hk
  subst hk
  exact sumAt_small ha hb hi hj
/-- may they be added? -/
def pairB (f g : List Nz) : Bool := goodB f && (goodB g && decide (f.length * g.length ≤ 1600))
theorem pairB_iff (f g : List Nz) : pairB f g = true ↔ goodB f = true ∧ goodB g = true ∧ f.length * g.length ≤ 1600 := by
  unfold pairB; simp
/-- the sum, if there is one -/
def sumOk (f g : List Nz) : Bool := pairB f g && fitsN (formM (sumN (f.map downN) (g.map downN)))
def sumV (f g : List Nz) : List Nz := if pairB f g then outV (sumN (f.map downN) (g.map downN)) else []
theorem sumV_no {f g : List Nz} (h : pairB f g = false) : sumV f g = [] := by unfold sumV; rw [h]; rfl
theorem sumV_yes {f g : List Nz} (h : pairB f g = true) : sumV f g = outV (sumN (f.map downN) (g.map downN)) := by unfold sumV; rw [h]; rfl
theorem sumOk_no {f g : List Nz} (h : pairB f g = false) : sumOk f g = false := by unfold sumOk; rw [h]; rfl
theorem sumOk_yes {f g : List Nz} (h : pairB f g = true) : sumOk f g = fitsN (formM (sumN (f.map downN) (g.map downN))) := by unfold sumOk; rw [h]; rfl
/-- what a good form gives to a walk -/
theorem good_parts {f : List Nz} (h : goodB f = true) : (f.map downN).map upN = f ∧ Under (f.map downN) ∧ Used (f.map downN) ∧ 0 < f.length ∧ f.length ≤ 120 ∧ ∀ nd ∈ f.map downN, nd.1.length ≤ 24 ∧ nd.2.length ≤ 24 := by
  obtain ⟨h1, h2, _, h4⟩ := (goodB_iff f).1 h
  refine ⟨h2.up.1, h2.up.2.under, h4, h1.1, h1.2.1, fun nd hnd => ?_⟩
  obtain ⟨x, hx, rfl⟩ := List.mem_map.1 hnd
  have := h1.2.2 x hx
  simpa [downN, downL] using this
end
section
set_option linter.unusedVariables false
set_option linter.unusedSimpArgs false
/-- where no node stands twice, no two are put to one place -/
theorem canon_inj {P : List Nd} {b : Nat → Nat} {out : List Nd} {pl : Nat → Nat} (hB : Book P) (h : Canon P b (fun _ => True) out pl) : ∀ n, ∀ k j, k < n → j < n → k < P.length → j < P.length → pl k = pl j → k = j
  | 0, k, j, hk, _, _, _, _ => by omega
  | n + 1, k, j, hk, hj, hkl, hjl, e => by
    have ih := canon_inj hB h n
    obtain ⟨x, hx⟩ := lt_get hkl
    obtain ⟨y, hy⟩ := lt_get hjl
    have h1 := h.node k x hx trivial
    have h2 := h.node j y hy trivial
    rw [e, h2] at h1
    injection h1 with h1
    have hu := hB.struct.under
    exact movd_inj hB (need := fun z => z < n) (pl := pl) (fun a b ha hb na nb => ih a b na nb ha hb) hx hy (fun z hz => by have := hu k x hx z hz; omega) (fun z hz => by have := hu j y hy z hz; omega) h1.symm
theorem canon_lenS {P : List Nd} {b : Nat → Nat} {out : List Nd} {pl : Nat → Nat} (hB : Book P) (h : Canon P b (fun _ => True) out pl) : out.length = P.length := by
  apply Nat.le_antisymm
  · have hn : (List.range out.length).Nodup := List.nodup_range
    have := hn.length_le_of_subset (l₂ := (List.range P.length).map pl) (fun i hi => by
      obtain ⟨k, h1, _, h3⟩ := h.from' i (by simpa using hi)
      exact List.mem_map.2 ⟨k, by simpa using h1, h3⟩)
    simpa using this
  · have hn : ((List.range P.length).map pl).Nodup := by
      rw [List.Nodup, List.pairwise_map]
      exact List.nodup_range.imp_of_mem (fun {x y} hx hy hxy e => hxy (canon_inj hB h P.length x y (by simpa using hx) (by simpa using hy) (by simpa using hx) (by simpa using hy) e))
    have := hn.length_le_of_subset (l₂ := List.range out.length) (fun i hi => by
      obtain ⟨k, hk, e⟩ := List.mem_map.1 hi
      subst e
      exact List.mem_range.2 (h.placed (by simpa using hk) trivial))
    simpa using this
theorem swapN_book {P : List Nd} (h : Book P) : Book (swapN P) := by
  refine ⟨fun k nd hk => ?_, ?_⟩
  · have := h.struct k _ (swapN_get hk)
    exact ⟨this.2.1, this.1, fun x hx => this.2.2 x hx.symm⟩
  · unfold swapN
    rw [List.Nodup, List.pairwise_map]
    exact h.nodup.imp (fun {x y} hxy e => hxy (by
      obtain ⟨x1, x2⟩ := x
      obtain ⟨y1, y2⟩ := y
      injection e with e1 e2
      subst e1 e2
      rfl))
theorem good_book {f : List Nz} (h : goodB f = true) : Book (f.map downN) := by
  obtain ⟨h1, h2, h3, h4⟩ := (goodB_iff f).1 h
  exact rising_book h2.up.2 h3.rising
theorem neg_canon {f : List Nz} (h : goodB f = true) : ∃ pl, Canon (swapN (f.map downN)) (bOf (swapN (f.map downN))) (fun _ => True) (formM (swapN (f.map downN))) pl := by
  obtain ⟨h1, h2, h3, h4⟩ := (goodB_iff f).1 h
  have hu := h2.up.2.under
  have hl : 0 < (swapN (f.map downN)).length := by rw [swapN_len]; simpa using h1.1
  exact (formM_canon _ (swapN_under hu) hl (swapN_reach hu h4)).1
theorem neg_len {f : List Nz} (h : goodB f = true) : (negV f).length = f.length := by
  obtain ⟨pl, hc⟩ := neg_canon h
  rw [negV_yes h, List.length_map, canon_lenS (swapN_book (good_book h)) hc, swapN_len, List.length_map]
theorem neg_good {f : List Nz} (h : goodB f = true) : goodB (negV f) = true := by
  obtain ⟨h1, h2, h3, h4⟩ := (goodB_iff f).1 h
  have hu := h2.up.2.under
  have hl : 0 < (swapN (f.map downN)).length := by rw [swapN_len]; simpa using h1.1
  rw [negV_yes h, good_fits _ (swapN_under hu) hl (swapN_reach hu h4)]
  exact neg_fits f h
theorem neg_down {f : List Nz} (h : goodB f = true) : (negV f).map downN = formM (swapN (f.map downN)) := by rw [negV_yes h, down_up]
/-- the difference, or nothing -/
def mnV (f g : List Nz) : List Nz := if goodB g then sumV f (negV g) else []
def mnOk (f g : List Nz) : Bool := goodB g && sumOk f (negV g)
theorem mnOk_no {f g : List Nz} (h : goodB g = false) : mnOk f g = false := by unfold mnOk; rw [h]; rfl
theorem mnV_good {f g : List Nz} (h : goodB g = true) : mnV f g = sumV f (negV g) := by unfold mnV; rw [h]; rfl
theorem mnOk_good {f g : List Nz} (h : goodB g = true) : mnOk f g = sumOk f (negV g) := by unfold mnOk; rw [h]; rfl
theorem pair_neg {f g : List Nz} (h : goodB g = true) : pairB f (negV g) = pairB f g := by
  unfold pairB
  rw [neg_good h, neg_len h, h]
end

end Go.Proofs.Ytabfdaofikccmaa
