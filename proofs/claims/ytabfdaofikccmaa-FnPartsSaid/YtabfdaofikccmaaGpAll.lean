/- Games that are played alike: the order does not see how their nodes stand. -/
import Derived.Test.YtabfdaofikccmaaOrAll
import Derived.Test.YtabfdaofikccmaaSmM
import Derived.Test.YtabfdaofikccmaaSpAll
namespace Go.Proofs.Ytabfdaofikccmaa
section
set_option linter.unusedVariables false
set_option linter.unusedSimpArgs false
/-- nodes that answer each other, options with options -/
def IsSim (A B : List Nd) (S : Nat → Nat → Prop) : Prop := ∀ i j, S i j → ∀ l, (∀ r ∈ optsD A i l, ∃ s ∈ optsD B j l, S r s) ∧ (∀ s ∈ optsD B j l, ∃ r ∈ optsD A i l, S r s)
theorem ge_sim_n : ∀ (n : Nat) (A A' B B' : List Nd) (S T : Nat → Nat → Prop), Under A → Under A' → Under B → Under B' → IsSim A A' S → IsSim B B' T → ∀ i j i' j', i + j < n → S i i' → T j j' → geW A B i j = geW A' B' i' j' := by
  intro n
  induction n with
  | zero => intro A A' B B' S T _ _ _ _ _ _ i j i' j' h; omega
  | succ n ih =>
    intro A A' B B' S T hA hA' hB hB' hS hT i j i' j' hn hi hj
    rw [Bool.eq_iff_iff, ge_step hA hB, ge_step hA' hB']
    constructor
    · rintro ⟨h1, h2⟩
      refine ⟨fun r' hr' => ?_, fun l' hl' => ?_⟩
      · obtain ⟨r, hr, hs⟩ := (hS i i' hi false).2 r' hr'
        have := optsD_lt hA hr
        rw [← ih B B' A A' T S hB hB' hA hA' hT hS j r j' r' (by omega) hj hs]
        exact h1 r hr
      · obtain ⟨l, hl, hs⟩ := (hT j j' hj true).2 l' hl'
        have := optsD_lt hB hl
        rw [← ih B B' A A' T S hB hB' hA hA' hT hS l i l' i' (by omega) hs hi]
        exact h2 l hl
    · rintro ⟨h1, h2⟩
      refine ⟨fun r hr => ?_, fun l hl => ?_⟩
      · obtain ⟨r', hr', hs⟩ := (hS i i' hi false).1 r hr
        have := optsD_lt hA hr
        rw [ih B B' A A' T S hB hB' hA hA' hT hS j r j' r' (by omega) hj hs]
        exact h1 r' hr'
      · obtain ⟨l', hl', hs⟩ := (hT j j' hj true).1 l hl
        have := optsD_lt hB hl
        rw [ih B B' A A' T S hB hB' hA hA' hT hS l i l' i' (by omega) hs hi]
        exact h2 l' hl'
/-- the order of what answers is the order -/
theorem ge_sim {A A' B B' : List Nd} {S T : Nat → Nat → Prop} (hA : Under A) (hA' : Under A') (hB : Under B) (hB' : Under B') (hS : IsSim A A' S) (hT : IsSim B B' T) {i j i' j' : Nat} (hi : S i i') (hj : T j j') : geW A B i j = geW A' B' i' j' :=
  ge_sim_n _ A A' B B' S T hA hA' hB hB' hS hT i j i' j' (Nat.lt_succ_self _) hi hj
theorem optsD_mem {P : List Nd} {i : Nat} {nd : Nd} (h : P[i]? = some nd) (l : Bool) : optsD P i l = if l then nd.1 else nd.2 := by
  unfold optsD
  rw [nodeD_at h]
theorem optsD_mov {out : List Nd} {i : Nat} {nd : Nd} {pl : Nat → Nat} (h : out[i]? = some (movd pl nd)) (l : Bool) (s : Nat) : s ∈ optsD out i l ↔ ∃ r ∈ (if l then nd.1 else nd.2), pl r = s := by
  rw [optsD_mem h]
  cases l <;> simp [movd, mem_sortd]
/-- the form in order answers what it was made of -/
theorem canon_sim {P out : List Nd} {b pl : Nat → Nat} (hu : Under P) (h : Canon P b (fun _ => True) out pl) : IsSim P out (fun i j => i < P.length ∧ j = pl i) := by
  rintro i j ⟨hi, rfl⟩ l
  obtain ⟨nd, hnd⟩ := lt_get hi
  have ho := h.node i nd hnd trivial
  have hm : ∀ r, r ∈ (if l then nd.1 else nd.2) → r < P.length := fun r hr => by
    have := hu i nd hnd r (by
      cases l
      · exact Or.inr hr
      · exact Or.inl hr)
    omega
  refine ⟨fun r hr => ?_, fun s hs => ?_⟩
  · rw [optsD_mem hnd] at hr
    exact ⟨pl r, (optsD_mov ho l _).2 ⟨r, hr, rfl⟩, hm r hr, rfl⟩
  · obtain ⟨r, hr, e⟩ := (optsD_mov ho l s).1 hs
    exact ⟨r, by rw [optsD_mem hnd]; exact hr, hm r hr, e.symm⟩
/-- the top stays the top -/
theorem canon_top {P out : List Nd} {b pl : Nat → Nat} (hU : Used P) (hu : Under out) (h : Canon P b (fun _ => True) out pl) (h0 : 0 < out.length) : pl (P.length - 1) = out.length - 1 := by
  obtain ⟨k, hk, _, e⟩ := h.from' (out.length - 1) (by omega)
  rcases Nat.lt_or_ge (k + 1) P.length with hlt | hge
  · exfalso
    obtain ⟨j, nd, hj, hm⟩ := hU k hlt
    have ho := h.node j nd hj trivial
    have hm2 : pl k ∈ (movd pl nd).1 ∨ pl k ∈ (movd pl nd).2 := by
      rcases hm with h1 | h1
      · left; simp only [movd, mem_sortd, List.mem_map]; exact ⟨k, h1, rfl⟩
      · right; simp only [movd, mem_sortd, List.mem_map]; exact ⟨k, h1, rfl⟩
    have h1 := hu (pl j) _ ho (pl k) hm2
    have h2 := get_lt ho
    omega
  · rw [show P.length - 1 = k by omega]
    exact e
theorem optsD_swap (P : List Nd) (i : Nat) (l : Bool) : optsD (swapN P) i l = optsD P i (!l) := by
  cases hn : P[i]? with
  | none =>
    have h2 : (swapN P)[i]? = none := by unfold swapN; rw [List.getElem?_map, hn]; rfl
    unfold optsD nodeD
    rw [List.getD_eq_getElem?_getD, List.getD_eq_getElem?_getD, hn, h2]
    cases l <;> rfl
  | some nd =>
    rw [optsD_mem hn, optsD_mem (swapN_at hn)]
    cases l <;> rfl
theorem neg_under {f : List Nz} (h : goodB f = true) : Under ((negV f).map downN) := ((goodB_iff _).1 (neg_good h)).2.1.up.2.under
end

section
set_option linter.unusedVariables false
set_option linter.unusedSimpArgs false
theorem optsD_sum {A B : List Nd} {i j : Nat} (hi : i < A.length) (hj : j < B.length) (l : Bool) : optsD (sumN A B) (i * B.length + j) l = sumLP B.length i j (optsD A i l) (optsD B j l) := by
  rw [optsD_mem (sumN_at hi hj)]
  unfold optsD nodeD sumAt
  cases l <;> rfl
/-- places of a sum whose parts answer each other -/
def PairS (A B A' B' : List Nd) (S T : Nat → Nat → Prop) (x y : Nat) : Prop := ∃ i j i' j', x = i * B.length + j ∧ y = i' * B'.length + j' ∧ i < A.length ∧ j < B.length ∧ i' < A'.length ∧ j' < B'.length ∧ S i i' ∧ T j j'
theorem sum_sim {A B A' B' : List Nd} {S T : Nat → Nat → Prop} (hA : Under A) (hB : Under B) (hA' : Under A') (hB' : Under B') (hS : IsSim A A' S) (hT : IsSim B B' T) : IsSim (sumN A B) (sumN A' B') (PairS A B A' B' S T) := by
  rintro x y ⟨i, j, i', j', rfl, rfl, hi, hj, hi', hj', si, tj⟩ l
  rw [optsD_sum hi hj, optsD_sum hi' hj']
  refine ⟨fun r hr => ?_, fun s hs => ?_⟩
  · rcases mem_sumL.1 hr with ⟨o, ho, rfl⟩ | ⟨o, ho, rfl⟩
    · obtain ⟨o', ho', so⟩ := (hS i i' si l).1 o ho
      have := optsD_lt hA ho
      have := optsD_lt hA' ho'
      exact ⟨_, mem_sumL.2 (Or.inl ⟨o', ho', rfl⟩), o, j, o', j', rfl, rfl, by omega, hj, by omega, hj', so, tj⟩
    · obtain ⟨o', ho', so⟩ := (hT j j' tj l).1 o ho
      have := optsD_lt hB ho
      have := optsD_lt hB' ho'
      exact ⟨_, mem_sumL.2 (Or.inr ⟨o', ho', rfl⟩), i, o, i', o', rfl, rfl, hi, by omega, hi', by omega, si, so⟩
  · rcases mem_sumL.1 hs with ⟨o', ho', rfl⟩ | ⟨o', ho', rfl⟩
    · obtain ⟨o, ho, so⟩ := (hS i i' si l).2 o' ho'
      have := optsD_lt hA ho
      have := optsD_lt hA' ho'
      exact ⟨_, mem_sumL.2 (Or.inl ⟨o, ho, rfl⟩), o, j, o', j', rfl, rfl, by omega, hj, by omega, hj', so, tj⟩
    · obtain ⟨o, ho, so⟩ := (hT j j' tj l).2 o' ho'
      have := optsD_lt hB ho
      have := optsD_lt hB' ho'
      exact ⟨_, mem_sumL.2 (Or.inr ⟨o, ho, rfl⟩), i, o, i', o', rfl, rfl, hi, by omega, hi', by omega, si, so⟩
theorem sim_self (A : List Nd) : IsSim A A (fun i j => i = j) := by
  rintro i j rfl l
  exact ⟨fun r hr => ⟨r, hr, rfl⟩, fun s hs => ⟨s, hs, rfl⟩⟩
theorem sim_then {A B C : List Nd} {S T : Nat → Nat → Prop} (hS : IsSim A B S) (hT : IsSim B C T) : IsSim A C (fun i k => ∃ j, S i j ∧ T j k) := by
  rintro i k ⟨j, h1, h2⟩ l
  refine ⟨fun r hr => ?_, fun s hs => ?_⟩
  · obtain ⟨r', hr', e1⟩ := (hS i j h1 l).1 r hr
    obtain ⟨r2, hr2, e2⟩ := (hT j k h2 l).1 r' hr'
    exact ⟨r2, hr2, r', e1, e2⟩
  · obtain ⟨r', hr', e1⟩ := (hT j k h2 l).2 s hs
    obtain ⟨r2, hr2, e2⟩ := (hS i j h1 l).2 r' hr'
    exact ⟨r2, hr2, r', e2, e1⟩
theorem any_mem {α : Type} {l : List α} {p q : α → Bool} (h : ∀ x ∈ l, p x = q x) : l.any p = l.any q := by
  induction l with
  | nil => rfl
  | cons a l ih =>
    simp only [List.any_cons]
    rw [h a (List.mem_cons_self ..), ih (fun x hx => h x (List.mem_cons_of_mem _ hx))]
/-- the difference played alone is the play of two games against each other -/
theorem solo_sum_n : ∀ (n : Nat) (A B : List Nd), Under A → Under B → ∀ i j, i + j < n → i < A.length → j < B.length → ∀ l, soloF (sumN A (swapN B)) (i * B.length + j) l = winF A B i j l := by
  intro n
  induction n with
  | zero => intro A B _ _ i j h; omega
  | succ n ih =>
    intro A B hA hB i j hn hi hj l
    have hsw : (swapN B).length = B.length := swapN_len B
    rw [soloF_eq _ (sumN_under hA (swapN_under hB)), winF_eq A B hA hB]
    have ho := optsD_sum (A := A) (B := swapN B) hi (by rw [hsw]; exact hj) l
    rw [hsw] at ho
    rw [ho, optsD_swap]
    unfold sumLP
    rw [List.any_append, List.any_map, List.any_map]
    congr 1
    · refine any_mem fun o ho => ?_
      have := optsD_lt hA ho
      simp only [Function.comp]
      rw [ih A B hA hB o j (by omega) (by omega) hj]
    · refine any_mem fun o ho => ?_
      have := optsD_lt hB ho
      simp only [Function.comp]
      rw [ih A B hA hB i o (by omega) hi (by omega)]
/-- what answers wins alone alike -/
theorem solo_sim {A A' : List Nd} {S : Nat → Nat → Prop} (hA : Under A) (hA' : Under A') (hS : IsSim A A' S) {i i' : Nat} (hi : S i i') (l : Bool) : soloF A i l = soloF A' i' l := by
  have e1 := ge_sim hA hA' under_zero under_zero hS (sim_self [([], [])]) hi (j := 0) (j' := 0) rfl
  have e2 := ge_sim under_zero under_zero hA hA' (sim_self [([], [])]) hS (i := 0) (i' := 0) rfl hi
  unfold geW at e1 e2
  cases l with
  | false => unfold soloF; simpa using e1
  | true =>
    unfold soloF
    rw [winF_turn A [([], [])] hA under_zero _ i 0 (Nat.lt_succ_self _), winF_turn A' [([], [])] hA' under_zero _ i' 0 (Nat.lt_succ_self _)]
    simpa using e2
end

section
set_option linter.unusedVariables false
set_option linter.unusedSimpArgs false
theorem top_pair {m n : Nat} (hm : 0 < m) (hn : 0 < n) : m * n - 1 = (m - 1) * n + (n - 1) := by
  obtain ⟨a, rfl⟩ : ∃ a, m = a + 1 := ⟨m - 1, by omega⟩
  rw [Nat.add_sub_cancel, Nat.add_mul]
  omega
theorem minus_solo {f g : List Nz} (hf : goodB f = true) (hg : goodB g = true) (l : Bool) :
    soloF (formM (sumN (f.map downN) (formM (swapN (g.map downN))))) ((formM (sumN (f.map downN) (formM (swapN (g.map downN))))).length - 1) l = diffF f g l := by
  obtain ⟨a1, a2, a3, a4⟩ := (goodB_iff f).1 hf
  obtain ⟨b1, b2, b3, b4⟩ := (goodB_iff g).1 hg
  have uf := a2.up.2.under
  have ug := b2.up.2.under
  obtain ⟨pg, cg⟩ := neg_canon hg
  have ng : Under (formM (swapN (g.map downN))) := by rw [← neg_down hg]; exact neg_under hg
  have lg : (formM (swapN (g.map downN))).length = g.length := by rw [← neg_down hg, List.length_map, neg_len hg]
  have usg : Used (formM (swapN (g.map downN))) := by
    have h := ((goodB_iff _).1 (neg_good hg)).2.2.2
    rw [neg_down hg] at h
    exact h
  have tg := canon_top (swapN_used b4) ng cg (by rw [lg]; have := b1.1; omega)
  rw [swapN_len, List.length_map, lg] at tg
  have h0f : 0 < f.length := by have := a1.1; omega
  have h0g : 0 < g.length := by have := b1.1; omega
  obtain ⟨B, hB⟩ : ∃ B, formM (swapN (g.map downN)) = B := ⟨_, rfl⟩
  rw [hB] at ng lg usg cg ⊢
  have uQ := sumN_under uf ng
  have lQ : (sumN (f.map downN) B).length = f.length * g.length := by rw [sumN_len, List.length_map, lg]
  have pQ : 0 < (sumN (f.map downN) B).length := by rw [lQ]; exact Nat.mul_pos h0f h0g
  obtain ⟨⟨pl, hc⟩, hst, _, hu⟩ := formM_canon _ uQ pQ (sumN_reach uf ng a4 usg)
  have h0m : 0 < (formM (sumN (f.map downN) B)).length := by
    obtain ⟨nd, hnd⟩ := lt_get pQ
    have := get_lt (hc.node 0 nd hnd trivial)
    omega
  have tQ := canon_top (sumN_used a4 usg) hst.under hc h0m
  have e1 := solo_sim uQ hst.under (canon_sim uQ hc) (i := (sumN (f.map downN) B).length - 1) (i' := (formM (sumN (f.map downN) B)).length - 1) ⟨by omega, tQ.symm⟩ l
  rw [← e1]
  have e2 := solo_sim (sumN_under uf (swapN_under ug)) uQ (sum_sim uf (swapN_under ug) uf ng (sim_self (f.map downN)) (canon_sim (swapN_under ug) cg))
    (i := (f.length - 1) * (swapN (g.map downN)).length + (g.length - 1)) (i' := (sumN (f.map downN) B).length - 1)
    ⟨f.length - 1, g.length - 1, f.length - 1, g.length - 1, rfl, by rw [lQ, lg]; exact top_pair h0f h0g, by rw [List.length_map]; omega, by rw [swapN_len, List.length_map]; omega, by rw [List.length_map]; omega, by omega, rfl, by rw [swapN_len, List.length_map]; omega, tg.symm⟩ l
  rw [← e2]
  have e3 := solo_sum_n _ (f.map downN) (g.map downN) uf ug (f.length - 1) (g.length - 1) (Nat.lt_succ_self _) (by rw [List.length_map]; omega) (by rw [List.length_map]; omega) l
  rw [swapN_len]
  exact e3
end

section
set_option linter.unusedVariables false
set_option linter.unusedSimpArgs false
theorem asc_one : ∀ {l m : List Nat}, l.Pairwise (· < ·) → m.Pairwise (· < ·) → (∀ x, x ∈ l ↔ x ∈ m) → l = m
  | [], [], _, _, _ => rfl
  | [], b :: m, _, _, h => by have := (h b).2 (List.mem_cons_self ..); simp at this
  | a :: l, [], _, _, h => by have := (h a).1 (List.mem_cons_self ..); simp at this
  | a :: l, b :: m, hl, hm, h => by
    rw [List.pairwise_cons] at hl hm
    have hab : a = b := by
      rcases List.mem_cons.1 ((h a).1 (List.mem_cons_self ..)) with e | e
      · exact e
      · rcases List.mem_cons.1 ((h b).2 (List.mem_cons_self ..)) with e2 | e2
        · exact e2.symm
        · have := hm.1 a e
          have := hl.1 b e2
          omega
    subst hab
    rw [asc_one hl.2 hm.2 (fun x => ?_)]
    constructor
    · intro hx
      rcases List.mem_cons.1 ((h x).1 (List.mem_cons_of_mem _ hx)) with e | e
      · have := hl.1 x hx; omega
      · exact e
    · intro hx
      rcases List.mem_cons.1 ((h x).2 (List.mem_cons_of_mem _ hx)) with e | e
      · have := hm.1 x hx; omega
      · exact e
theorem sim_flip {F G : List Nd} {S : Nat → Nat → Prop} (h : IsSim F G S) : IsSim G F (fun j i => S i j) := fun j i hs l =>
  ⟨fun r hr => (h i j hs l).2 r hr, fun s hs' => (h i j hs l).1 s hs'⟩
theorem mem_opts {P : List Nd} {i x : Nat} {nd : Nd} (h : P[i]? = some nd) : (x ∈ nd.1 ∨ x ∈ nd.2) ↔ ∃ l, x ∈ optsD P i l := by
  constructor
  · rintro (h1 | h1)
    · exact ⟨true, by rw [optsD_mem h]; exact h1⟩
    · exact ⟨false, by rw [optsD_mem h]; exact h1⟩
  · rintro ⟨l, h1⟩
    rw [optsD_mem h] at h1
    cases l
    · exact Or.inr h1
    · exact Or.inl h1
/-- what answers was born on the same day -/
theorem birth_le {F G : List Nd} {S : Nat → Nat → Prop} (hF : Under F) (hG : Under G) (hS : IsSim F G S) : ∀ n i j, i < n → i < F.length → j < G.length → S i j → bOf F i ≤ bOf G j := by
  intro n
  induction n with
  | zero => intro i j h; omega
  | succ n ih =>
    intro i j hn hi hj hs
    obtain ⟨nd, hnd⟩ := lt_get hi
    obtain ⟨md, hmd⟩ := lt_get hj
    rw [births_bOf F hF i nd hnd, births_bOf G hG j md hmd]
    refine lastOf_le _ _ _ fun x hx => ?_
    obtain ⟨l, hl⟩ := (mem_opts hnd).1 hx
    obtain ⟨s, hs', e⟩ := (hS i j hs l).1 x hl
    have h1 := optsD_lt hF hl
    have h2 := optsD_lt hG hs'
    have h3 := ih x s (by omega) (by omega) (by omega) e
    have h4 := lastOf_lt (bOf G) md s ((mem_opts hmd).2 ⟨l, hs'⟩)
    omega
theorem birth_sim {F G : List Nd} {S : Nat → Nat → Prop} (hF : Under F) (hG : Under G) (hS : IsSim F G S) {i j : Nat} (hi : i < F.length) (hj : j < G.length) (hs : S i j) : bOf F i = bOf G j :=
  Nat.le_antisymm (birth_le hF hG hS _ i j (Nat.lt_succ_self _) hi hj hs) (birth_le hG hF (sim_flip hS) _ j i (Nat.lt_succ_self _) hj hi hs)
theorem node_one {F G : List Nd} {S : Nat → Nat → Prop} (hF : Struct F) (hG : Struct G) (hS : IsSim F G S) {i j : Nat} {nd md : Nd} (hnd : F[i]? = some nd) (hmd : G[j]? = some md) (hs : S i j) (h : ∀ l r s, r ∈ optsD F i l → s ∈ optsD G j l → S r s → r = s) : nd = md := by
  have key : ∀ l x, x ∈ optsD F i l ↔ x ∈ optsD G j l := fun l x => by
    constructor
    · intro hx
      obtain ⟨s, h1, h2⟩ := (hS i j hs l).1 x hx
      rw [h l x s hx h1 h2]
      exact h1
    · intro hx
      obtain ⟨r, h1, h2⟩ := (hS i j hs l).2 x hx
      rw [← h l r x h1 hx h2]
      exact h1
  obtain ⟨s1, s2, _⟩ := hF i nd hnd
  obtain ⟨t1, t2, _⟩ := hG j md hmd
  have k1 := key true
  have k2 := key false
  simp only [optsD_mem hnd, optsD_mem hmd] at k1 k2
  exact Prod.ext (asc_one s1 t1 (by simpa using k1)) (asc_one s2 t2 (by simpa using k2))
theorem uniq_step {F G : List Nd} {S : Nat → Nat → Prop} (hF : Struct F) (hG : Struct G) (rF : Rising F (bOf F)) (rG : Rising G (bOf G)) (hS : IsSim F G S) (hr : ∀ j, j < G.length → ∃ i, i < F.length ∧ S i j) {n : Nat}
    (hP : ∀ i j, i < F.length → j < G.length → S i j → (i < n ∨ j < n) → i = j) {j : Nat} (hn : n < F.length) (hj : j < G.length) (hs : S n j) (hlt : n < j) : False := by
  obtain ⟨i', hi', hs'⟩ := hr n (by omega)
  have hge : n ≤ i' := by
    rcases Nat.lt_or_ge i' n with h | h
    · have := hP i' n hi' (by omega) hs' (Or.inl h); omega
    · exact h
  obtain ⟨fn, hfn⟩ := lt_get hn
  obtain ⟨gj, hgj⟩ := lt_get hj
  obtain ⟨gn, hgn⟩ := lt_get (l := G) (i := n) (by omega)
  obtain ⟨fi, hfi⟩ := lt_get hi'
  have e1 : fn = gj := node_one hF hG hS hfn hgj hs fun l r s h1 h2 h3 => by
    have a1 := optsD_lt hF.under h1
    have a2 := optsD_lt hG.under h2
    exact hP r s (by omega) (by omega) h3 (Or.inl a1)
  have e2 : fi = gn := node_one hF hG hS hfi hgn hs' fun l r s h1 h2 h3 => by
    have a1 := optsD_lt hF.under h1
    have a2 := optsD_lt hG.under h2
    exact hP r s (by omega) (by omega) h3 (Or.inr a2)
  have b1 := birth_sim hF.under hG.under hS hn hj hs
  have b2 := birth_sim hF.under hG.under hS hi' (by omega) hs'
  subst e1 e2
  have g1 := rG n j fi fn hgn hgj hlt
  rcases Nat.lt_or_ge n i' with h | h
  · have f1 := rF n i' fn fi hfn hfi h
    rcases g1 with g1 | ⟨g1, g2⟩ <;> rcases f1 with f1 | ⟨f1, f2⟩
    · omega
    · omega
    · omega
    · have := ltNd_asymm _ _ g2
      rw [f2] at this
      cases this
  · obtain rfl : i' = n := by omega
    rw [hfi] at hfn
    injection hfn with hfn
    subst hfn
    rcases g1 with g1 | ⟨_, g2⟩
    · omega
    · rw [ltNd_irrefl] at g2
      cases g2
theorem uniq_n {F G : List Nd} {S : Nat → Nat → Prop} (hF : Struct F) (hG : Struct G) (rF : Rising F (bOf F)) (rG : Rising G (bOf G)) (hS : IsSim F G S) (hl : ∀ i, i < F.length → ∃ j, j < G.length ∧ S i j) (hr : ∀ j, j < G.length → ∃ i, i < F.length ∧ S i j) :
    ∀ n i j, i < F.length → j < G.length → S i j → (i < n ∨ j < n) → i = j := by
  intro n
  induction n with
  | zero => intro i j _ _ _ h; omega
  | succ n ih =>
    intro i j hi hj hs h
    by_cases h0 : i < n ∨ j < n
    · exact ih i j hi hj hs h0
    · rcases Nat.lt_trichotomy i j with h1 | h1 | h1
      · exfalso
        obtain rfl : i = n := by omega
        exact uniq_step hF hG rF rG hS hr ih hi hj hs h1
      · exact h1
      · exfalso
        obtain rfl : j = n := by omega
        exact uniq_step hG hF rG rF (sim_flip hS) hl (fun i j a b c d => (ih j i b a c (Or.symm d)).symm) hj hi hs h1
/-- forms in order whose nodes answer each other are the same -/
theorem uniq {F G : List Nd} {S : Nat → Nat → Prop} (hF : Struct F) (hG : Struct G) (rF : Rising F (bOf F)) (rG : Rising G (bOf G)) (hS : IsSim F G S) (hl : ∀ i, i < F.length → ∃ j, j < G.length ∧ S i j) (hr : ∀ j, j < G.length → ∃ i, i < F.length ∧ S i j) : F = G := by
  have key : ∀ i j, i < F.length → j < G.length → S i j → i = j := fun i j hi hj hs => uniq_n hF hG rF rG hS hl hr (i + 1) i j hi hj hs (Or.inl (Nat.lt_succ_self _))
  apply List.ext_getElem?
  intro i
  rcases Nat.lt_or_ge i F.length with hi | hi
  · obtain ⟨j, hj, hs⟩ := hl i hi
    obtain rfl := key i j hi hj hs
    obtain ⟨nd, hnd⟩ := lt_get hi
    obtain ⟨md, hmd⟩ := lt_get hj
    have e : nd = md := node_one hF hG hS hnd hmd hs fun l r s h1 h2 h3 => by
      have a1 := optsD_lt hF.under h1
      have a2 := optsD_lt hG.under h2
      exact key r s (by omega) (by omega) h3
    rw [hnd, hmd, e]
  · rw [List.getElem?_eq_none hi]
    rcases Nat.lt_or_ge i G.length with hj | hj
    · obtain ⟨k, hk, hs⟩ := hr i hj
      have := key k i hk hj hs
      omega
    · rw [List.getElem?_eq_none hj]
end

section
set_option linter.unusedVariables false
set_option linter.unusedSimpArgs false
theorem sim_all {F G : List Nd} {S : Nat → Nat → Prop} (hF : Under F) (hG : Under G) (hU : Used F) (hS : IsSim F G S) (h0 : 0 < G.length) (ht : S (F.length - 1) (G.length - 1)) : ∀ n i, F.length - i < n → i < F.length → ∃ j, j < G.length ∧ S i j := by
  intro n
  induction n with
  | zero => intro i h; omega
  | succ n ih =>
    intro i hn hi
    rcases Nat.lt_or_ge (i + 1) F.length with h | h
    · obtain ⟨k, nd, hk, hm⟩ := hU i h
      have hik := hF k nd hk i hm
      have hkl := get_lt hk
      obtain ⟨j, hj, hs⟩ := ih k (by omega) hkl
      obtain ⟨l, hl⟩ := (mem_opts hk).1 hm
      obtain ⟨s, h1, h2⟩ := (hS k j hs l).1 i hl
      have := optsD_lt hG h1
      exact ⟨s, by omega, h2⟩
    · obtain rfl : i = F.length - 1 := by omega
      exact ⟨G.length - 1, by omega, ht⟩
/-- forms in order of one game are one form -/
theorem form_one {F G : List Nd} {S : Nat → Nat → Prop} (hF : Struct F) (hG : Struct G) (rF : Rising F (bOf F)) (rG : Rising G (bOf G)) (uF : Used F) (uG : Used G) (f0 : 0 < F.length) (g0 : 0 < G.length) (hS : IsSim F G S) (ht : S (F.length - 1) (G.length - 1)) : F = G :=
  uniq hF hG rF rG hS (fun i hi => sim_all hF.under hG.under uF hS g0 ht _ i (Nat.lt_succ_self _) hi) (fun j hj => sim_all hG.under hF.under uG (sim_flip hS) f0 ht _ j (Nat.lt_succ_self _) hj)
/-- what formM makes, and how it answers -/
theorem formM_sim {P : List Nd} (hu : Under P) (h0 : 0 < P.length) (hU : Used P) : ∃ S : Nat → Nat → Prop, IsSim P (formM P) S ∧ S (P.length - 1) ((formM P).length - 1) ∧ Struct (formM P) ∧ Rising (formM P) (bOf (formM P)) ∧ Used (formM P) ∧ 0 < (formM P).length := by
  obtain ⟨⟨pl, hc⟩, hst, hri, hus⟩ := formM_canon P hu h0 (fun k hk => reached_used hu hU k hk)
  have h1 : 0 < (formM P).length := by
    obtain ⟨nd, hnd⟩ := lt_get h0
    have := get_lt (hc.node 0 nd hnd trivial)
    omega
  exact ⟨_, canon_sim hu hc, ⟨by omega, (canon_top hU hst.under hc h1).symm⟩, hst, hri.rising, hus, h1⟩
/-- games that answer each other have one form -/
theorem formM_one {P Q : List Nd} {S : Nat → Nat → Prop} (hP : Under P) (hQ : Under Q) (p0 : 0 < P.length) (q0 : 0 < Q.length) (uP : Used P) (uQ : Used Q) (hS : IsSim P Q S) (ht : S (P.length - 1) (Q.length - 1)) : formM P = formM Q := by
  obtain ⟨S1, s1, t1, a1, a2, a3, a4⟩ := formM_sim hP p0 uP
  obtain ⟨S2, s2, t2, b1, b2, b3, b4⟩ := formM_sim hQ q0 uQ
  exact form_one a1 b1 a2 b2 a3 b3 a4 b4 (sim_then (sim_flip s1) (sim_then hS s2)) ⟨_, t1, _, ht, t2⟩
/-- a form in order is its own form -/
theorem formM_self {F : List Nd} (hF : Struct F) (rF : Rising F (bOf F)) (uF : Used F) (f0 : 0 < F.length) : formM F = F := by
  obtain ⟨S1, s1, t1, a1, a2, a3, a4⟩ := formM_sim hF.under f0 uF
  exact (form_one hF a1 rF a2 uF a3 f0 a4 s1 t1).symm
/-- a sum's parts may be turned -/
theorem sum_turn {A B : List Nd} (hA : Under A) (hB : Under B) : IsSim (sumN A B) (sumN B A) (fun x y => ∃ i j, i < A.length ∧ j < B.length ∧ x = i * B.length + j ∧ y = j * A.length + i) := by
  rintro x y ⟨i, j, hi, hj, rfl, rfl⟩ l
  rw [optsD_sum hi hj, optsD_sum hj hi]
  refine ⟨fun r hr => ?_, fun s hs => ?_⟩
  · rcases mem_sumL.1 hr with ⟨o, ho, rfl⟩ | ⟨o, ho, rfl⟩
    · have := optsD_lt hA ho
      exact ⟨_, mem_sumL.2 (Or.inr ⟨o, ho, rfl⟩), o, j, by omega, hj, rfl, rfl⟩
    · have := optsD_lt hB ho
      exact ⟨_, mem_sumL.2 (Or.inl ⟨o, ho, rfl⟩), i, o, hi, by omega, rfl, rfl⟩
  · rcases mem_sumL.1 hs with ⟨o, ho, rfl⟩ | ⟨o, ho, rfl⟩
    · have := optsD_lt hB ho
      exact ⟨_, mem_sumL.2 (Or.inr ⟨o, ho, rfl⟩), i, o, hi, by omega, rfl, rfl⟩
    · have := optsD_lt hA ho
      exact ⟨_, mem_sumL.2 (Or.inl ⟨o, ho, rfl⟩), o, j, by omega, hj, rfl, rfl⟩
/-- a sum of three may be put together from either side -/
theorem sum_three {A B C : List Nd} (hA : Under A) (hB : Under B) (hC : Under C) : IsSim (sumN (sumN A B) C) (sumN A (sumN B C)) (fun x y => ∃ i j k, i < A.length ∧ j < B.length ∧ k < C.length ∧ x = (i * B.length + j) * C.length + k ∧ y = i * (sumN B C).length + (j * C.length + k)) := by
  rintro x y ⟨i, j, k, hi, hj, hk, rfl, rfl⟩ l
  have h1 : i * B.length + j < (sumN A B).length := by rw [sumN_len]; exact pair_lt hi hj
  have h2 : j * C.length + k < (sumN B C).length := by rw [sumN_len]; exact pair_lt hj hk
  rw [optsD_sum h1 hk, optsD_sum hi h2, optsD_sum hi hj, optsD_sum hj hk]
  refine ⟨fun r hr => ?_, fun s hs => ?_⟩
  · rcases mem_sumL.1 hr with ⟨o, ho, rfl⟩ | ⟨o, ho, rfl⟩
    · rcases mem_sumL.1 ho with ⟨q, hq, rfl⟩ | ⟨q, hq, rfl⟩
      · have := optsD_lt hA hq
        exact ⟨_, mem_sumL.2 (Or.inl ⟨q, hq, rfl⟩), q, j, k, by omega, hj, hk, rfl, rfl⟩
      · have := optsD_lt hB hq
        exact ⟨_, mem_sumL.2 (Or.inr ⟨_, mem_sumL.2 (Or.inl ⟨q, hq, rfl⟩), rfl⟩), i, q, k, hi, by omega, hk, rfl, rfl⟩
    · have := optsD_lt hC ho
      exact ⟨_, mem_sumL.2 (Or.inr ⟨_, mem_sumL.2 (Or.inr ⟨o, ho, rfl⟩), rfl⟩), i, j, o, hi, hj, by omega, rfl, rfl⟩
  · rcases mem_sumL.1 hs with ⟨q, hq, rfl⟩ | ⟨o, ho, rfl⟩
    · have := optsD_lt hA hq
      exact ⟨_, mem_sumL.2 (Or.inl ⟨_, mem_sumL.2 (Or.inl ⟨q, hq, rfl⟩), rfl⟩), q, j, k, by omega, hj, hk, rfl, rfl⟩
    · rcases mem_sumL.1 ho with ⟨q, hq, rfl⟩ | ⟨q, hq, rfl⟩
      · have := optsD_lt hB hq
        exact ⟨_, mem_sumL.2 (Or.inl ⟨_, mem_sumL.2 (Or.inr ⟨q, hq, rfl⟩), rfl⟩), i, q, k, hi, by omega, hk, rfl, rfl⟩
      · have := optsD_lt hC hq
        exact ⟨_, mem_sumL.2 (Or.inr ⟨q, hq, rfl⟩), i, j, q, hi, hj, by omega, rfl, rfl⟩
end

section
set_option linter.unusedVariables false
set_option linter.unusedSimpArgs false
/-- a good form's nodes -/
theorem good_nodes {f : List Nz} (h : goodB f = true) : Under (f.map downN) ∧ Used (f.map downN) ∧ 0 < (f.map downN).length := by
  obtain ⟨h1, h2, h3, h4⟩ := (goodB_iff f).1 h
  exact ⟨h2.up.2.under, h4, by rw [List.length_map]; exact h1.1⟩
theorem sum_nodes {A B : List Nd} (hA : Under A ∧ Used A ∧ 0 < A.length) (hB : Under B ∧ Used B ∧ 0 < B.length) : Under (sumN A B) ∧ Used (sumN A B) ∧ 0 < (sumN A B).length :=
  ⟨sumN_under hA.1 hB.1, sumN_used hA.2.1 hB.2.1, by rw [sumN_len]; exact Nat.mul_pos hA.2.2 hB.2.2⟩
theorem form_nodes {P : List Nd} (h : Under P ∧ Used P ∧ 0 < P.length) : Under (formM P) ∧ Used (formM P) ∧ 0 < (formM P).length := by
  obtain ⟨S, _, _, h1, _, h2, h3⟩ := formM_sim h.1 h.2.2 h.2.1
  exact ⟨h1.under, h2, h3⟩
theorem sum_top {A B : List Nd} (hA : 0 < A.length) (hB : 0 < B.length) : (sumN A B).length - 1 = (A.length - 1) * B.length + (B.length - 1) := by
  rw [sumN_len]
  exact top_pair hA hB
/-- a sum's form is told by its parts' games -/
theorem formM_sum {A B A' B' : List Nd} {S T : Nat → Nat → Prop} (hA : Under A ∧ Used A ∧ 0 < A.length) (hB : Under B ∧ Used B ∧ 0 < B.length) (hA' : Under A' ∧ Used A' ∧ 0 < A'.length) (hB' : Under B' ∧ Used B' ∧ 0 < B'.length) (hS : IsSim A A' S) (hT : IsSim B B' T) (s : S (A.length - 1) (A'.length - 1)) (t : T (B.length - 1) (B'.length - 1)) : formM (sumN A B) = formM (sumN A' B') := by
  obtain ⟨p1, p2, p3⟩ := sum_nodes hA hB
  obtain ⟨q1, q2, q3⟩ := sum_nodes hA' hB'
  refine formM_one p1 q1 p3 q3 p2 q2 (sum_sim hA.1 hB.1 hA'.1 hB'.1 hS hT) ?_
  have a0 := hA.2.2
  have b0 := hB.2.2
  have a1 := hA'.2.2
  have b1 := hB'.2.2
  exact ⟨A.length - 1, B.length - 1, A'.length - 1, B'.length - 1, sum_top a0 b0, sum_top a1 b1, by omega, by omega, by omega, by omega, s, t⟩
theorem formM_turn {A B : List Nd} (hA : Under A ∧ Used A ∧ 0 < A.length) (hB : Under B ∧ Used B ∧ 0 < B.length) : formM (sumN A B) = formM (sumN B A) := by
  obtain ⟨p1, p2, p3⟩ := sum_nodes hA hB
  obtain ⟨q1, q2, q3⟩ := sum_nodes hB hA
  have a0 := hA.2.2
  have b0 := hB.2.2
  exact formM_one p1 q1 p3 q3 p2 q2 (sum_turn hA.1 hB.1) ⟨A.length - 1, B.length - 1, by omega, by omega, sum_top a0 b0, sum_top b0 a0⟩
theorem pairB_turn (f g : List Nz) : pairB f g = pairB g f := by
  unfold pairB
  rw [Nat.mul_comm]
  cases goodB f <;> cases goodB g <;> rfl
/-- sums may be turned -/
theorem sumOk_turn (f g : List Nz) : sumOk f g = sumOk g f := by
  cases h : pairB f g with
  | false => rw [sumOk_no h, sumOk_no (by rw [pairB_turn]; exact h)]
  | true =>
    obtain ⟨hf, hg, _⟩ := (pairB_iff f g).1 h
    rw [sumOk_yes h, sumOk_yes (by rw [pairB_turn]; exact h), formM_turn (good_nodes hf) (good_nodes hg)]
theorem sumV_turn (f g : List Nz) : sumV f g = sumV g f := by
  cases h : pairB f g with
  | false => rw [sumV_no h, sumV_no (by rw [pairB_turn]; exact h)]
  | true =>
    obtain ⟨hf, hg, _⟩ := (pairB_iff f g).1 h
    rw [sumV_yes h, sumV_yes (by rw [pairB_turn]; exact h)]
    unfold outV
    rw [formM_turn (good_nodes hf) (good_nodes hg)]
theorem swapN_swap (P : List Nd) : swapN (swapN P) = P := by
  unfold swapN
  rw [List.map_map]
  exact List.map_id' P
theorem swap_sim {P Q : List Nd} {S : Nat → Nat → Prop} (h : IsSim P Q S) : IsSim (swapN P) (swapN Q) S := fun i j hs l => by
  rw [optsD_swap, optsD_swap]
  exact h i j hs (!l)
/-- the negative's negative -/
theorem neg_neg {f : List Nz} (h : goodB f = true) : negV (negV f) = f := by
  obtain ⟨h1, h2, h3, h4⟩ := (goodB_iff f).1 h
  obtain ⟨n1, n2, n3⟩ := good_nodes h
  have hU : Used (swapN (f.map downN)) := swapN_used h4
  have h0 : 0 < (swapN (f.map downN)).length := by rw [swapN_len]; exact n3
  obtain ⟨S, hS, ht, hst, _, hus, hl⟩ := formM_sim (swapN_under n1) h0 hU
  have hb := swap_sim (sim_flip hS)
  rw [swapN_swap] at hb
  have e : formM (swapN (formM (swapN (f.map downN)))) = f.map downN := by
    rw [formM_one (swapN_under hst.under) n1 (by rw [swapN_len]; exact hl) n3 (swapN_used hus) n2 hb (by rw [swapN_len]; rw [swapN_len] at ht; exact ht)]
    exact formM_self h2.up.2 h3.rising n2 n3
  rw [negV_yes (neg_good h), neg_down h, e]
  exact h2.up.1
/-- a sum that fits is a good form -/
theorem sum_good {f g : List Nz} (h : sumOk f g = true) : goodB (sumV f g) = true ∧ (sumV f g).map downN = formM (sumN (f.map downN) (g.map downN)) ∧ goodB f = true ∧ goodB g = true := by
  cases hp : pairB f g with
  | false => rw [sumOk_no hp] at h; cases h
  | true =>
    obtain ⟨hf, hg, _⟩ := (pairB_iff f g).1 hp
    rw [sumOk_yes hp] at h
    obtain ⟨p1, p2, p3⟩ := sum_nodes (good_nodes hf) (good_nodes hg)
    have e : sumV f g = (formM (sumN (f.map downN) (g.map downN))).map upN := by rw [sumV_yes hp, outV_yes h]
    refine ⟨?_, by rw [e, down_up], hf, hg⟩
    rw [e, good_fits _ p1 p3 (fun k hk => reached_used p1 p2 k hk)]
    exact h
/-- who wins a difference: the play of the two against each other -/
theorem mn_solo {f g : List Nz} (h : mnOk f g = true) : goodB (mnV f g) = true ∧ ∀ l, soloF ((mnV f g).map downN) ((mnV f g).length - 1) l = diffF f g l := by
  cases hg : goodB g with
  | false => rw [mnOk_no hg] at h; cases h
  | true =>
    rw [mnOk_good hg] at h
    obtain ⟨h1, h2, hf, _⟩ := sum_good h
    rw [mnV_good hg]
    refine ⟨h1, fun l => ?_⟩
    have e : (sumV f (negV g)).length = ((sumV f (negV g)).map downN).length := by simp
    rw [e, h2, neg_down hg]
    exact minus_solo hf hg l
/-- a game and its negative: whoever moves loses -/
theorem zero_solo {f : List Nz} (hf : goodB f = true) (h : sumOk f (negV f) = true) (l : Bool) : goodB (sumV f (negV f)) = true ∧ soloF ((sumV f (negV f)).map downN) ((sumV f (negV f)).length - 1) l = false := by
  have hm : mnOk f f = true := by rw [mnOk_good hf]; exact h
  obtain ⟨h1, h2⟩ := mn_solo hm
  rw [mnV_good hf] at h1 h2
  refine ⟨h1, ?_⟩
  rw [h2 l]
  have u := (good_nodes hf).1
  have hr := ge_refl u (f.length - 1)
  unfold geW at hr
  have h0 : winF (f.map downN) (f.map downN) (f.length - 1) (f.length - 1) false = false := by simpa using hr
  unfold diffF
  cases l with
  | false => exact h0
  | true =>
    rw [winF_turn _ _ u u _ _ _ (Nat.lt_succ_self _)]
    exact h0
/-- three may be put together from either side -/
theorem sum_assoc {a b c : List Nz} (h1 : sumOk a b = true) (h2 : sumOk b c = true) (h3 : sumOk (sumV a b) c = true) (h4 : sumOk a (sumV b c) = true) : sumV (sumV a b) c = sumV a (sumV b c) := by
  obtain ⟨g1, d1, ga, gb⟩ := sum_good h1
  obtain ⟨g2, d2, _, gc⟩ := sum_good h2
  obtain ⟨g3, d3, _, _⟩ := sum_good h3
  obtain ⟨g4, d4, _, _⟩ := sum_good h4
  have na := good_nodes ga
  have nb := good_nodes gb
  have nc := good_nodes gc
  have nab := sum_nodes na nb
  have nbc := sum_nodes nb nc
  obtain ⟨S, hS, tS, _⟩ := formM_sim nab.1 nab.2.2 nab.2.1
  obtain ⟨T, hT, tT, _⟩ := formM_sim nbc.1 nbc.2.2 nbc.2.1
  have e1 : formM (sumN (formM (sumN (a.map downN) (b.map downN))) (c.map downN)) = formM (sumN (sumN (a.map downN) (b.map downN)) (c.map downN)) :=
    (formM_sum nab nc (form_nodes nab) nc hS (sim_self _) tS rfl).symm
  have e2 : formM (sumN (a.map downN) (formM (sumN (b.map downN) (c.map downN)))) = formM (sumN (a.map downN) (sumN (b.map downN) (c.map downN))) :=
    (formM_sum na nbc na (form_nodes nbc) (sim_self _) hT rfl tT).symm
  obtain ⟨p1, p2, p3⟩ := sum_nodes nab nc
  obtain ⟨q1, q2, q3⟩ := sum_nodes na nbc
  have a0 := na.2.2
  have b0 := nb.2.2
  have c0 := nc.2.2
  have e3 : formM (sumN (sumN (a.map downN) (b.map downN)) (c.map downN)) = formM (sumN (a.map downN) (sumN (b.map downN) (c.map downN))) := by
    refine formM_one p1 q1 p3 q3 p2 q2 (sum_three na.1 nb.1 nc.1) ⟨(a.map downN).length - 1, (b.map downN).length - 1, (c.map downN).length - 1, by omega, by omega, by omega, ?_, ?_⟩
    · rw [sum_top nab.2.2 c0, sum_top a0 b0]
    · rw [sum_top a0 nbc.2.2, sum_top b0 c0]
  have key : (sumV (sumV a b) c).map downN = (sumV a (sumV b c)).map downN := by rw [d3, d4, d1, d2, e1, e2, e3]
  have u3 := ((goodB_iff _).1 g3).2.1.up.1
  have u4 := ((goodB_iff _).1 g4).2.1.up.1
  rw [← u3, ← u4, key]
end

section
set_option linter.unusedVariables false
set_option linter.unusedSimpArgs false
/-- the game, or its negative -/
def tmF (n : Int) (f : List Nz) : List Nz := if n < 0 then negV f else f
/-- that often -/
def tmL (n : Int) (f : List Nz) : List (List Nz) := List.replicate n.natAbs (tmF n f)
/-- can it be taken that often? -/
def tmIn (n : Int) (f : List Nz) : Bool := decide (-12 ≤ n ∧ n ≤ 12) && goodB f
def tmOk (n : Int) (f : List Nz) : Bool := tmIn n f && soOk (tmL n f)
def tmV (n : Int) (f : List Nz) : List Nz := if tmIn n f then soV (tmL n f) else []
theorem tmOk_no {n : Int} {f : List Nz} (h : tmIn n f = false) : tmOk n f = false := by unfold tmOk; rw [h]; rfl
theorem tmV_yes {n : Int} {f : List Nz} (h : tmIn n f = true) : tmV n f = soV (tmL n f) := by unfold tmV; rw [h]; rfl
theorem tmOk_yes {n : Int} {f : List Nz} (h : tmIn n f = true) : tmOk n f = soOk (tmL n f) := by unfold tmOk; rw [h]; rfl
theorem tmIn_iff (n : Int) (f : List Nz) : tmIn n f = true ↔ (-12 ≤ n ∧ n ≤ 12) ∧ goodB f = true := by
  unfold tmIn
  rw [Bool.and_eq_true, decide_eq_true_eq]
theorem tmL_neg {n : Int} {f g : List Nz} {k : Nat} (h : n < 0) (hg : negV f = g) (hk : -n = k) : tmL n f = List.replicate k g := by
  unfold tmL tmF
  rw [if_pos h, hg, show n.natAbs = k by omega]
theorem tmL_pos {n : Int} {f : List Nz} {k : Nat} (h : ¬ n < 0) (hk : n = k) : tmL n f = List.replicate k f := by
  unfold tmL tmF
  rw [if_neg h, show n.natAbs = k by omega]
end

section
set_option linter.unusedVariables false
set_option linter.unusedSimpArgs false
theorem zero_good : goodB zeroZ = true := by decide
theorem zero_down : zeroZ.map downN = [([], [])] := by decide
theorem zero_nodes : Under [([], [])] ∧ Used [([], [])] ∧ 0 < ([([], [])] : List Nd).length := by
  have h := good_nodes zero_good
  rw [zero_down] at h
  exact h
theorem zero_sim {A : List Nd} (hA : Under A) : IsSim (sumN [([], [])] A) A (fun x y => x = y ∧ y < A.length) := by
  rintro x y ⟨rfl, hy⟩ l
  have h := optsD_sum (A := [([], [])]) (B := A) (i := 0) (j := x) (by simp) hy l
  rw [Nat.zero_mul, Nat.zero_add] at h
  have hz : optsD [([], [])] 0 l = [] := by cases l <;> rfl
  rw [h, hz]
  refine ⟨fun r hr => ?_, fun s hs => ?_⟩
  · rcases mem_sumL.1 hr with ⟨o, ho, _⟩ | ⟨o, ho, rfl⟩
    · simp at ho
    · have := optsD_lt hA ho
      exact ⟨o, ho, by omega, by omega⟩
  · have := optsD_lt hA hs
    exact ⟨s, mem_sumL.2 (Or.inr ⟨s, hs, by omega⟩), rfl, by omega⟩
theorem formM_good {f : List Nz} (h : goodB f = true) : formM (f.map downN) = f.map downN := by
  obtain ⟨h1, h2, h3, h4⟩ := (goodB_iff f).1 h
  obtain ⟨n1, n2, n3⟩ := good_nodes h
  exact formM_self h2.up.2 h3.rising n2 n3
theorem good_up {f : List Nz} (h : goodB f = true) : (f.map downN).map upN = f := ((goodB_iff f).1 h).2.1.up.1
/-- 0 and a game: the game -/
theorem zero_sum {f : List Nz} (h : goodB f = true) : sumOk zeroZ f = true ∧ sumV zeroZ f = f := by
  obtain ⟨n1, n2, n3⟩ := good_nodes h
  obtain ⟨p1, p2, p3⟩ := sum_nodes zero_nodes ⟨n1, n2, n3⟩
  have e : formM (sumN [([], [])] (f.map downN)) = f.map downN := by
    rw [formM_one p1 n1 p3 n3 p2 n2 (zero_sim n1) ⟨by rw [sumN_len]; simp, by omega⟩]
    exact formM_good h
  have hl : f.length ≤ 120 := (good_parts h).2.2.2.2.1
  have hp : pairB zeroZ f = true := (pairB_iff zeroZ f).2 ⟨zero_good, h, by unfold zeroZ; simp; omega⟩
  have hfit : fitsN (formM (sumN (zeroZ.map downN) (f.map downN))) = true := by
    have hg := good_fits (f.map downN) n1 n3 (fun k hk => reached_used n1 n2 k hk)
    rw [formM_good h, good_up h, h] at hg
    rw [zero_down, e]
    exact hg.symm
  refine ⟨by rw [sumOk_yes hp]; exact hfit, ?_⟩
  rw [sumV_yes hp, outV_yes hfit, zero_down, e]
  exact good_up h
/-- the sum of three games as the sum of many -/
theorem many_three {a b c : List Nz} (ga : goodB a = true) (h1 : sumOk a b = true) (h2 : sumOk (sumV a b) c = true) : soOk [a, b, c] = true ∧ soV [a, b, c] = sumV (sumV a b) c := by
  obtain ⟨z1, z2⟩ := zero_sum ga
  have e : soF [a, b, c] = (sumV (sumV a b) c, true) := by
    show soStep (soStep (soStep (zeroZ, true) a) b) c = _
    have s1 : soStep (zeroZ, true) a = (a, true) := by
      show (if (true && sumOk zeroZ a) then (sumV zeroZ a, true) else ([], false)) = _
      rw [z1, z2]; rfl
    have s2 : soStep (a, true) b = (sumV a b, true) := by
      show (if (true && sumOk a b) then (sumV a b, true) else ([], false)) = _
      rw [h1]; rfl
    rw [s1, s2]
    show (if (true && sumOk (sumV a b) c) then (sumV (sumV a b) c, true) else ([], false)) = _
    rw [h2]; rfl
  have ho : soOk [a, b, c] = true := by
    unfold soOk
    rw [e]
    rfl
  exact ⟨ho, by rw [soV_yes ho, e]⟩
theorem getD_swap (A : List Nd) (i : Nat) : (swapN A).getD i ([], []) = ((A.getD i ([], [])).2, (A.getD i ([], [])).1) := by
  unfold swapN
  rw [List.getD_eq_getElem?_getD, List.getD_eq_getElem?_getD, List.getElem?_map]
  cases A[i]? <;> rfl
theorem sum_swap (A B : List Nd) : sumN (swapN A) (swapN B) = swapN (sumN A B) := by
  unfold sumN
  rw [swapN_len, swapN_len]
  unfold sumAt
  simp only [getD_swap, swapN_len]
  unfold swapN
  rw [List.map_map]
  rfl
/-- the sum of negatives, one way -/
theorem neg_sum_one {a b : List Nz} (h : sumOk a b = true) : sumOk (negV a) (negV b) = true ∧ sumV (negV a) (negV b) = negV (sumV a b) := by
  obtain ⟨gs, ds, ga, gb⟩ := sum_good h
  have na := good_nodes ga
  have nb := good_nodes gb
  have nab := sum_nodes na nb
  have sa : Under (swapN (a.map downN)) ∧ Used (swapN (a.map downN)) ∧ 0 < (swapN (a.map downN)).length := ⟨swapN_under na.1, swapN_used na.2.1, by rw [swapN_len]; exact na.2.2⟩
  have sb : Under (swapN (b.map downN)) ∧ Used (swapN (b.map downN)) ∧ 0 < (swapN (b.map downN)).length := ⟨swapN_under nb.1, swapN_used nb.2.1, by rw [swapN_len]; exact nb.2.2⟩
  have sab : Under (swapN (sumN (a.map downN) (b.map downN))) ∧ Used (swapN (sumN (a.map downN) (b.map downN))) ∧ 0 < (swapN (sumN (a.map downN) (b.map downN))).length := ⟨swapN_under nab.1, swapN_used nab.2.1, by rw [swapN_len]; exact nab.2.2⟩
  have fab := form_nodes nab
  have sfab : Under (swapN (formM (sumN (a.map downN) (b.map downN)))) ∧ Used (swapN (formM (sumN (a.map downN) (b.map downN)))) ∧ 0 < (swapN (formM (sumN (a.map downN) (b.map downN)))).length := ⟨swapN_under fab.1, swapN_used fab.2.1, by rw [swapN_len]; exact fab.2.2⟩
  obtain ⟨S, hS, tS, _⟩ := formM_sim sa.1 sa.2.2 sa.2.1
  obtain ⟨T, hT, tT, _⟩ := formM_sim sb.1 sb.2.2 sb.2.1
  obtain ⟨R, hR, tR, _⟩ := formM_sim nab.1 nab.2.2 nab.2.1
  have e1 : formM (sumN (formM (swapN (a.map downN))) (formM (swapN (b.map downN)))) = formM (swapN (sumN (a.map downN) (b.map downN))) := by
    rw [← sum_swap]
    exact (formM_sum sa sb (form_nodes sa) (form_nodes sb) hS hT tS tT).symm
  have e2 : formM (swapN (sumN (a.map downN) (b.map downN))) = formM (swapN (formM (sumN (a.map downN) (b.map downN)))) :=
    formM_one sab.1 sfab.1 sab.2.2 sfab.2.2 sab.2.1 sfab.2.1 (swap_sim hR) (by rw [swapN_len, swapN_len]; exact tR)
  have hp : pairB (negV a) (negV b) = true := by
    cases hp : pairB a b with
    | false => rw [sumOk_no hp] at h; cases h
    | true => rw [pair_neg gb, pairB_turn, pair_neg ga, pairB_turn]; exact hp
  have hf := neg_fits (sumV a b) gs
  rw [ds, ← e2, ← e1] at hf
  have hf2 : fitsN (formM (sumN ((negV a).map downN) ((negV b).map downN))) = true := by rw [neg_down ga, neg_down gb]; exact hf
  refine ⟨by rw [sumOk_yes hp]; exact hf2, ?_⟩
  rw [sumV_yes hp, outV_yes hf2, neg_down ga, neg_down gb, negV_yes gs, ds, e1, e2]
/-- the sum of negatives is the sum's negative -/
theorem neg_sum {a b : List Nz} (ga : goodB a = true) (gb : goodB b = true) : sumOk (negV a) (negV b) = sumOk a b := by
  cases h : sumOk a b with
  | true => exact (neg_sum_one h).1
  | false =>
    cases h2 : sumOk (negV a) (negV b) with
    | false => rfl
    | true =>
      have h3 := (neg_sum_one h2).1
      rw [neg_neg ga, neg_neg gb, h] at h3
      cases h3
theorem neg_zero : negV zeroZ = zeroZ := by
  have h := formM_good zero_good
  rw [zero_down] at h
  rw [negV_yes zero_good, zero_down]
  show (formM [([], [])]).map upN = zeroZ
  rw [h]
  rfl
theorem soStep_yes {s : List Nz × Bool} {f : List Nz} (h : s.2 = true) (h2 : sumOk s.1 f = true) : soStep s f = (sumV s.1 f, true) := by
  unfold soStep
  rw [h, h2]
  rfl
theorem soStep_no {s : List Nz × Bool} {f : List Nz} (h : s.2 = false ∨ sumOk s.1 f = false) : soStep s f = ([], false) := by
  unfold soStep
  rcases h with h | h <;> rw [h] <;> simp
/-- so many of a negative -/
theorem so_neg {f : List Nz} (gf : goodB f = true) : ∀ k, (soF (List.replicate k (negV f))).2 = (soF (List.replicate k f)).2 ∧ ((soF (List.replicate k f)).2 = true → goodB (soF (List.replicate k f)).1 = true ∧ (soF (List.replicate k (negV f))).1 = negV (soF (List.replicate k f)).1) := by
  intro k
  induction k with
  | zero => exact ⟨rfl, fun _ => ⟨zero_good, neg_zero.symm⟩⟩
  | succ k ih =>
    rw [List.replicate_succ', List.replicate_succ', soF_snoc, soF_snoc]
    obtain ⟨i1, i2⟩ := ih
    generalize soF (List.replicate k f) = s at i1 i2 ⊢
    generalize soF (List.replicate k (negV f)) = t at i1 i2 ⊢
    cases hs : s.2 with
    | false =>
      rw [soStep_no (Or.inl hs), soStep_no (Or.inl (i1.trans hs))]
      exact ⟨rfl, fun h => by cases h⟩
    | true =>
      obtain ⟨j1, j2⟩ := i2 hs
      have hn := neg_sum j1 gf
      rw [← j2] at hn
      cases ho : sumOk s.1 f with
      | false =>
        rw [soStep_no (Or.inr ho), soStep_no (Or.inr (hn.trans ho))]
        exact ⟨rfl, fun h => by cases h⟩
      | true =>
        rw [soStep_yes hs ho, soStep_yes (i1.trans hs) (hn.trans ho)]
        refine ⟨rfl, fun _ => ⟨(sum_good ho).1, ?_⟩⟩
        rw [j2]
        exact (neg_sum_one ho).2
theorem soOk_rep {k : Nat} {f : List Nz} (hk : k ≤ 12) : soOk (List.replicate k f) = (soF (List.replicate k f)).2 := by
  unfold soOk
  rw [List.length_replicate, decide_eq_true hk, Bool.true_and]
/-- as many of a negative: the negative -/
theorem tm_turn {n : Int} {f : List Nz} (h : tmOk n f = true) (hn : n ≤ 0) : tmOk (-n) f = true ∧ goodB (tmV (-n) f) = true ∧ negV (tmV (-n) f) = tmV n f := by
  cases hi : tmIn n f with
  | false => rw [tmOk_no hi] at h; cases h
  | true =>
    obtain ⟨⟨r1, r2⟩, gf⟩ := (tmIn_iff n f).1 hi
    have hi2 : tmIn (-n) f = true := (tmIn_iff (-n) f).2 ⟨⟨by omega, by omega⟩, gf⟩
    rw [tmOk_yes hi] at h
    rw [tmOk_yes hi2, tmV_yes hi2, tmV_yes hi]
    obtain ⟨k, hk⟩ : ∃ k : Nat, -n = k := ⟨(-n).toNat, by omega⟩
    have hk12 : k ≤ 12 := by omega
    rw [tmL_pos (n := -n) (k := k) (by omega) hk]
    obtain ⟨i1, i2⟩ := so_neg gf k
    rcases Int.lt_or_eq_of_le hn with h0 | h0
    · rw [tmL_neg h0 rfl hk] at h ⊢
      rw [soOk_rep hk12] at h
      have hs := i1.symm.trans h
      obtain ⟨j1, j2⟩ := i2 hs
      have o1 : soOk (List.replicate k f) = true := by rw [soOk_rep hk12]; exact hs
      have o2 : soOk (List.replicate k (negV f)) = true := by rw [soOk_rep hk12]; exact h
      refine ⟨o1, by rw [soV_yes o1]; exact j1, ?_⟩
      rw [soV_yes o1, soV_yes o2, j2]
    · obtain rfl : k = 0 := by omega
      have o1 : soOk (List.replicate 0 f) = true := rfl
      rw [tmL_pos (n := n) (k := 0) (by omega) (by omega)]
      exact ⟨o1, by rw [soV_yes o1]; exact zero_good, by rw [soV_yes o1]; exact neg_zero⟩
/-- one more -/
theorem tm_step {n : Int} {f : List Nz} (h : tmOk n f = true) (hn : 0 < n) : tmOk (n - 1) f = true ∧ sumOk (tmV (n - 1) f) f = true ∧ sumV (tmV (n - 1) f) f = tmV n f := by
  cases hi : tmIn n f with
  | false => rw [tmOk_no hi] at h; cases h
  | true =>
    obtain ⟨⟨r1, r2⟩, gf⟩ := (tmIn_iff n f).1 hi
    have hi2 : tmIn (n - 1) f = true := (tmIn_iff (n - 1) f).2 ⟨⟨by omega, by omega⟩, gf⟩
    rw [tmOk_yes hi] at h
    rw [tmOk_yes hi2, tmV_yes hi2, tmV_yes hi]
    obtain ⟨k, hk⟩ : ∃ k : Nat, n - 1 = k := ⟨(n - 1).toNat, by omega⟩
    have hk2 : n = ((k + 1 : Nat) : Int) := by omega
    rw [tmL_pos (n := n) (k := k + 1) (by omega) hk2] at h ⊢
    rw [tmL_pos (n := n - 1) (k := k) (by omega) hk]
    have h' := h
    rw [soOk_rep (by omega), List.replicate_succ', soF_snoc] at h'
    cases hs : (soF (List.replicate k f)).2 with
    | false => rw [soStep_no (Or.inl hs)] at h'; cases h'
    | true =>
      cases ho : sumOk (soF (List.replicate k f)).1 f with
      | false => rw [soStep_no (Or.inr ho)] at h'; cases h'
      | true =>
        have o1 : soOk (List.replicate k f) = true := by rw [soOk_rep (by omega)]; exact hs
        refine ⟨o1, by rw [soV_yes o1]; exact ho, ?_⟩
        rw [soV_yes o1, soV_yes h, List.replicate_succ', soF_snoc, soStep_yes hs ho]
end

end Go.Proofs.Ytabfdaofikccmaa
