/- Games that are played alike: the order does not see how their nodes stand. -/
import Derived.Test.YtiacgcpcgabdoaaGreatOrAll
import Derived.Test.YtiacgcpcgabdoaaGreatSmM
namespace Go.Proofs.YtiacgcpcgabdoaaGreat
set_option linter.unusedVariables false
set_option linter.unusedSimpArgs false

/-- nodes that answer each other, options with options -/
def IsSim (A B : List Nd) (S : Nat → Nat → Prop) : Prop := ∀ i j, S i j → ∀ l, (∀ r ∈ optsD A i l, ∃ s ∈ optsD B j l, S r s) ∧ (∀ s ∈ optsD B j l, ∃ r ∈ optsD A i l, S r s)

theorem ge_sim_n : ∀ (n : Nat) (A A' B B' : List Nd) (S T : Nat → Nat → Prop), Under A → Under A' → Under B → Under B' → IsSim A A' S → IsSim B B' T → ∀ i j i' j', i + j < n → S i i' → T j j' → geW A B i j = geW A' B' i' j' := by
  intro n
  induction n with
  | zero => intro A A' B B' S T _ _ _ _ _ _ i j i' j' h; omega
  | succ n ih =>
    intro A A' B B' S T hA hA' hB hB' hS hT i j i' j' hn hi hj
    rw [Bool.eq_iff_iff, ge_step hA hB, ge_step hA' hB']
    constructor
    · rintro ⟨h1, h2⟩
      refine ⟨fun r' hr' => ?_, fun l' hl' => ?_⟩
      · obtain ⟨r, hr, hs⟩ := (hS i i' hi false).2 r' hr'
        have := optsD_lt hA hr
        rw [← ih B B' A A' T S hB hB' hA hA' hT hS j r j' r' (by omega) hj hs]
        exact h1 r hr
      · obtain ⟨l, hl, hs⟩ := (hT j j' hj true).2 l' hl'
        have := optsD_lt hB hl
        rw [← ih B B' A A' T S hB hB' hA hA' hT hS l i l' i' (by omega) hs hi]
        exact h2 l hl
    · rintro ⟨h1, h2⟩
      refine ⟨fun r hr => ?_, fun l hl => ?_⟩
      · obtain ⟨r', hr', hs⟩ := (hS i i' hi false).1 r hr
        have := optsD_lt hA hr
        rw [ih B B' A A' T S hB hB' hA hA' hT hS j r j' r' (by omega) hj hs]
        exact h1 r' hr'
      · obtain ⟨l', hl', hs⟩ := (hT j j' hj true).1 l hl
        have := optsD_lt hB hl
        rw [ih B B' A A' T S hB hB' hA hA' hT hS l i l' i' (by omega) hs hi]
        exact h2 l' hl'

/-- the order of what answers is the order -/
theorem ge_sim {A A' B B' : List Nd} {S T : Nat → Nat → Prop} (hA : Under A) (hA' : Under A') (hB : Under B) (hB' : Under B') (hS : IsSim A A' S) (hT : IsSim B B' T) {i j i' j' : Nat} (hi : S i i') (hj : T j j') : geW A B i j = geW A' B' i' j' :=
  ge_sim_n _ A A' B B' S T hA hA' hB hB' hS hT i j i' j' (Nat.lt_succ_self _) hi hj

theorem optsD_mem {P : List Nd} {i : Nat} {nd : Nd} (h : P[i]? = some nd) (l : Bool) : optsD P i l = if l then nd.1 else nd.2 := by
  unfold optsD
  rw [nodeD_at h]

theorem optsD_mov {out : List Nd} {i : Nat} {nd : Nd} {pl : Nat → Nat} (h : out[i]? = some (movd pl nd)) (l : Bool) (s : Nat) : s ∈ optsD out i l ↔ ∃ r ∈ (if l then nd.1 else nd.2), pl r = s := by
  rw [optsD_mem h]
  cases l <;> simp [movd, mem_sortd]

/-- the form in order answers what it was made of -/
theorem canon_sim {P out : List Nd} {b pl : Nat → Nat} (hu : Under P) (h : Canon P b (fun _ => True) out pl) : IsSim P out (fun i j => i < P.length ∧ j = pl i) := by
  rintro i j ⟨hi, rfl⟩ l
  obtain ⟨nd, hnd⟩ := lt_get hi
  have ho := h.node i nd hnd trivial
  have hm : ∀ r, r ∈ (if l then nd.1 else nd.2) → r < P.length := fun r hr => by
    have := hu i nd hnd r (by
      cases l
      · exact Or.inr hr
      · exact Or.inl hr)
    omega
  refine ⟨fun r hr => ?_, fun s hs => ?_⟩
  · rw [optsD_mem hnd] at hr
    exact ⟨pl r, (optsD_mov ho l _).2 ⟨r, hr, rfl⟩, hm r hr, rfl⟩
  · obtain ⟨r, hr, e⟩ := (optsD_mov ho l s).1 hs
    exact ⟨r, by rw [optsD_mem hnd]; exact hr, hm r hr, e.symm⟩

/-- the top stays the top -/
theorem canon_top {P out : List Nd} {b pl : Nat → Nat} (hU : Used P) (hu : Under out) (h : Canon P b (fun _ => True) out pl) (h0 : 0 < out.length) : pl (P.length - 1) = out.length - 1 := by
  obtain ⟨k, hk, _, e⟩ := h.from' (out.length - 1) (by omega)
  rcases Nat.lt_or_ge (k + 1) P.length with hlt | hge
  · exfalso
    obtain ⟨j, nd, hj, hm⟩ := hU k hlt
    have ho := h.node j nd hj trivial
    have hm2 : pl k ∈ (movd pl nd).1 ∨ pl k ∈ (movd pl nd).2 := by
      rcases hm with h1 | h1
      · left; simp only [movd, mem_sortd, List.mem_map]; exact ⟨k, h1, rfl⟩
      · right; simp only [movd, mem_sortd, List.mem_map]; exact ⟨k, h1, rfl⟩
    have h1 := hu (pl j) _ ho (pl k) hm2
    have h2 := get_lt ho
    omega
  · rw [show P.length - 1 = k by omega]
    exact e

theorem optsD_swap (P : List Nd) (i : Nat) (l : Bool) : optsD (swapN P) i l = optsD P i (!l) := by
  cases hn : P[i]? with
  | none =>
    have h2 : (swapN P)[i]? = none := by unfold swapN; rw [List.getElem?_map, hn]; rfl
    unfold optsD nodeD
    rw [List.getD_eq_getElem?_getD, List.getD_eq_getElem?_getD, hn, h2]
    cases l <;> rfl
  | some nd =>
    rw [optsD_mem hn, optsD_mem (swapN_at hn)]
    cases l <;> rfl

theorem ge_swap_n : ∀ (n : Nat) (A B : List Nd), Under A → Under B → ∀ i j, i + j < n → geW (swapN B) (swapN A) j i = geW A B i j := by
  intro n
  induction n with
  | zero => intro A B _ _ i j h; omega
  | succ n ih =>
    intro A B hA hB i j hn
    rw [Bool.eq_iff_iff, ge_step hA hB, ge_step (swapN_under hB) (swapN_under hA)]
    simp only [optsD_swap, Bool.not_true, Bool.not_false]
    constructor
    · rintro ⟨h1, h2⟩
      refine ⟨fun r hr => ?_, fun l hl => ?_⟩
      · have := optsD_lt hA hr
        rw [← ih B A hB hA j r (by omega)]
        exact h2 r hr
      · have := optsD_lt hB hl
        rw [← ih B A hB hA l i (by omega)]
        exact h1 l hl
    · rintro ⟨h1, h2⟩
      refine ⟨fun r hr => ?_, fun l hl => ?_⟩
      · have := optsD_lt hB hr
        rw [ih B A hB hA r i (by omega)]
        exact h2 r hr
      · have := optsD_lt hA hl
        rw [ih B A hB hA j l (by omega)]
        exact h1 l hl

theorem neg_under {f : List Nz} (h : goodB f = true) : Under ((negV f).map downN) := ((goodB_iff _).1 (neg_good h)).2.1.up.2.under

/-- negatives are ordered the other way round -/
theorem neg_ge {f g : List Nz} (hf : goodB f = true) (hg : goodB g = true) : diffF (negV g) (negV f) false = diffF f g false := by
  obtain ⟨a1, a2, a3, a4⟩ := (goodB_iff f).1 hf
  obtain ⟨b1, b2, b3, b4⟩ := (goodB_iff g).1 hg
  obtain ⟨pf, cf⟩ := neg_canon hf
  obtain ⟨pg, cg⟩ := neg_canon hg
  have uf := a2.up.2.under
  have ug := b2.up.2.under
  have nf := neg_under hf
  have ng := neg_under hg
  have lf := neg_len hf
  have lg := neg_len hg
  have h := ge_sim (swapN_under ug) (by rw [← neg_down hg]; exact ng) (swapN_under uf) (by rw [← neg_down hf]; exact nf) (canon_sim (swapN_under ug) cg) (canon_sim (swapN_under uf) cf) (i := g.length - 1) (j := f.length - 1) (i' := (negV g).length - 1) (j' := (negV f).length - 1)
    ⟨by rw [swapN_len, List.length_map]; have := b1.1; omega, by
      have t := canon_top (swapN_used b4) (by rw [← neg_down hg]; exact ng) cg (by rw [← neg_down hg, List.length_map, lg]; have := b1.1; omega)
      rw [swapN_len, List.length_map, ← neg_down hg, List.length_map] at t
      exact t.symm⟩
    ⟨by rw [swapN_len, List.length_map]; have := a1.1; omega, by
      have t := canon_top (swapN_used a4) (by rw [← neg_down hf]; exact nf) cf (by rw [← neg_down hf, List.length_map, lf]; have := a1.1; omega)
      rw [swapN_len, List.length_map, ← neg_down hf, List.length_map] at t
      exact t.symm⟩
  have hs := ge_swap_n _ (f.map downN) (g.map downN) uf ug (f.length - 1) (g.length - 1) (Nat.lt_succ_self _)
  rw [h] at hs
  unfold geW at hs
  unfold diffF
  rw [neg_down hf, neg_down hg]
  simpa using hs

end Go.Proofs.YtiacgcpcgabdoaaGreat
