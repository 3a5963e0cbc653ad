/- What is sorted, and each once: the program's way is the model's. -/
import Derived.Test.YtbphepgffnlloaaFmGood
import Derived.Lib.SlicesCompact
namespace Go.Proofs.Ytbphepgffnlloaa
set_option linter.unusedVariables false
set_option linter.unusedSimpArgs false

theorem asc_extZ : ∀ (a b : List Int), a.Pairwise (· < ·) → b.Pairwise (· < ·) → (∀ x, x ∈ a ↔ x ∈ b) → a = b
  | [], [], _, _, _ => rfl
  | [], y :: b, _, _, h => by have := (h y).2 (by simp); simp at this
  | x :: a, [], _, _, h => by have := (h x).1 (by simp); simp at this
  | x :: a, y :: b, ha, hb, h => by
    rw [List.pairwise_cons] at ha hb
    have hxy : x = y := by
      have h1 := (h x).1 (by simp)
      have h2 := (h y).2 (by simp)
      rcases List.mem_cons.1 h1 with h1 | h1
      · exact h1
      · rcases List.mem_cons.1 h2 with h2 | h2
        · exact h2.symm
        · have := hb.1 x h1
          have := ha.1 y h2
          omega
    subst hxy
    rw [asc_extZ a b ha.2 hb.2 (fun z => by
      constructor
      · intro hz
        have h1 := (h z).1 (List.mem_cons_of_mem _ hz)
        rcases List.mem_cons.1 h1 with rfl | h1
        · have := ha.1 z hz; omega
        · exact h1
      · intro hz
        have h1 := (h z).2 (List.mem_cons_of_mem _ hz)
        rcases List.mem_cons.1 h1 with rfl | h1
        · have := hb.1 z hz; omega
        · exact h1)]

theorem get_bang (zs : List Int) (j : Nat) (h : j < zs.length) : zs.toArray[j]! = zs[j] := by simp [getElem!_pos, h]

theorem compact_upto (zs : List Int) (hs : zs.Pairwise (· ≤ ·)) : ∀ m, m ≤ zs.length → (Lib.compactUpTo zs.toArray m).Pairwise (· < ·) ∧ (∀ x, x ∈ Lib.compactUpTo zs.toArray m ↔ x ∈ zs.take m)
  | 0, _ => ⟨by simp [Lib.compactUpTo], fun x => by simp [Lib.compactUpTo]⟩
  | m + 1, hm => by
    obtain ⟨h1, h2⟩ := compact_upto zs hs m (by omega)
    have hml : m < zs.length := by omega
    have e1 := get_bang zs m hml
    have ht : zs.take (m + 1) = zs.take m ++ [zs[m]] := List.take_succ_eq_append_getElem hml
    have hle : ∀ x ∈ zs.take m, x ≤ zs[m] := fun x hx => by
      have h3 := hs
      rw [← List.take_append_drop m zs] at h3
      have h4 := (List.pairwise_append.1 h3).2.2 x hx zs[m] (by rw [List.drop_eq_getElem_cons hml]; exact List.mem_cons_self)
      exact h4
    rw [Lib.compactUpTo_succ, e1, ht]
    cases hk : Lib.keeps zs.toArray m with
    | true =>
      simp only [if_true]
      refine ⟨?_, fun x => by rw [List.mem_append, List.mem_append, h2 x]⟩
      rw [List.pairwise_append]
      refine ⟨h1, List.pairwise_singleton _ _, fun a ha b hb => ?_⟩
      simp only [List.mem_singleton] at hb
      subst hb
      have ha2 := (h2 a).1 ha
      rcases Nat.eq_zero_or_pos m with h0 | h0
      · subst h0; simp at ha2
      · unfold Lib.keeps at hk
        rw [decide_eq_true_iff] at hk
        rcases hk with hk | hk
        · omega
        · have e2 := get_bang zs (m - 1) (by omega)
          rw [e1, e2] at hk
          have hlast : a ≤ zs[m - 1] := by
            have ht2 : zs.take m = zs.take (m - 1) ++ [zs[m - 1]] := by
              have := List.take_succ_eq_append_getElem (l := zs) (i := m - 1) (by omega)
              rwa [show m - 1 + 1 = m from by omega] at this
            rw [ht2] at ha2
            rcases List.mem_append.1 ha2 with ha2 | ha2
            · have h3 := hs
              rw [← List.take_append_drop (m - 1) zs] at h3
              exact (List.pairwise_append.1 h3).2.2 a ha2 zs[m - 1] (by rw [List.drop_eq_getElem_cons (by omega)]; exact List.mem_cons_self)
            · simp only [List.mem_singleton] at ha2
              omega
          have hmm := hle zs[m - 1] (by
            have ht2 : zs.take m = zs.take (m - 1) ++ [zs[m - 1]] := by
              have := List.take_succ_eq_append_getElem (l := zs) (i := m - 1) (by omega)
              rwa [show m - 1 + 1 = m from by omega] at this
            rw [ht2]
            exact List.mem_append.2 (Or.inr (List.mem_singleton.2 rfl)))
          omega
    | false =>
      simp only [Bool.false_eq_true, if_false, List.append_nil]
      refine ⟨h1, fun x => ?_⟩
      rw [h2 x, List.mem_append, List.mem_singleton]
      constructor
      · exact Or.inl
      · rintro (h3 | h3)
        · exact h3
        · have h0 : 0 < m := by
            rcases Nat.eq_zero_or_pos m with h0 | h0
            · subst h0
              unfold Lib.keeps at hk
              simp at hk
            · exact h0
          unfold Lib.keeps at hk
          rw [decide_eq_false_iff_not] at hk
          have e2 := get_bang zs (m - 1) (by omega)
          have h4 : zs[m] = zs[m - 1] := by
            refine Classical.byContradiction fun hne => hk (Or.inr ?_)
            rw [e1, e2]
            exact hne
          rw [h3, h4]
          have ht2 : zs.take m = zs.take (m - 1) ++ [zs[m - 1]] := by
            have := List.take_succ_eq_append_getElem (l := zs) (i := m - 1) (by omega)
            rwa [show m - 1 + 1 = m from by omega] at this
          rw [ht2]
          exact List.mem_append.2 (Or.inr (List.mem_singleton.2 rfl))

theorem compact_asc (zs : List Int) (hs : zs.Pairwise (· ≤ ·)) : (Lib.compact zs).Pairwise (· < ·) ∧ ∀ x, x ∈ Lib.compact zs ↔ x ∈ zs := by
  have h := compact_upto zs hs zs.length (Nat.le_refl _)
  rw [List.take_length] at h
  exact h

theorem sort_compact (L : List Nat) : Lib.compact ((upL L).mergeSort fun x y => decide (x ≤ y)) = upL (sortd L) := by
  have hp := List.mergeSort_perm (upL L) (fun x y => decide (x ≤ y))
  have hs : ((upL L).mergeSort fun x y => decide (x ≤ y)).Pairwise (· ≤ ·) := by
    have h := List.pairwise_mergeSort (le := fun x y : Int => decide (x ≤ y)) (fun a b c h1 h2 => by simp at h1 h2 ⊢; omega) (fun a b => by simp; omega) (upL L)
    exact h.imp (fun hab => by simpa using hab)
  obtain ⟨h1, h2⟩ := compact_asc _ hs
  refine asc_extZ _ _ h1 ?_ (fun x => ?_)
  · unfold upL
    rw [List.pairwise_map]
    exact (sortd_asc L).imp (fun h => by omega)
  · rw [h2 x, hp.mem_iff]
    unfold upL
    simp only [List.mem_map, mem_sortd]

end Go.Proofs.Ytbphepgffnlloaa
