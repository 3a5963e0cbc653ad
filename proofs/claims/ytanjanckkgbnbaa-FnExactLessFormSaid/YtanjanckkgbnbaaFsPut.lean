/- A list of forms being filled. -/
import Derived.Test.YtanjanckkgbnbaaFmFs
import Derived.Test.YtanjanckkgbnbaaFmPartL
namespace Go.Proofs.Ytanjanckkgbnbaa
open Go.RowKit
set_option linter.unusedVariables false
set_option linter.unusedSimpArgs false

theorem infoFormA : (Try.prog.info? 28).map (fun i => (i.zero, i.size, i.bytes)) = some (some (.agg #[.slice none 0 0]), 1, 24) := by kernel_rfl

theorem OwnFS.put {w : World} {base j g c N : Nat} {ps : List (Value × List (Value × Value))} {Fs : List (List Nz)} {f : List Nz} {p : Value × List (Value × Value)} (h : OwnFS w base (.slice (some ⟨g, 0, none⟩) Fs.length c) ps Fs) (hj : j < Fs.length) (hf : OwnF w base p.1 p.2 f)
    (hN : ∀ b, AllF p b → N ≤ b) (hlt : ∀ b, AllFS (.slice (some ⟨g, 0, none⟩) Fs.length c) ps b → b < N) : OwnFS (w.setCell ⟨g, j, none⟩ p.1) base (.slice (some ⟨g, 0, none⟩) Fs.length c) (ps.set j p) (Fs.set j f) := by
  have s1 := World.ownsRow.stored h.row j p.1
  rw [← List.map_set] at s1
  have hv : (Value.slice (some ⟨g, 0, none⟩) Fs.length c).ownBlock = some g := rfl
  have hgN := hlt g (Or.inl hv)
  have ho : Only w (w.setCell ⟨g, j, none⟩ p.1) (fun b => b = g) := Only.of_set (F := fun b => b = g) (p := ⟨g, j, none⟩) p.1 rfl
  have hpl : ∀ (i : Nat) (q : Value × List (Value × Value)), ps[i]? = some q → ∀ b, AllF q b → b < N := fun i q hq b hb => hlt b (Or.inr ⟨i, q, hq, hb⟩)
  refine ⟨by rw [List.length_set]; exact s1.1, by rw [List.length_set, List.length_set]; exact h.len, fun i n0 q hi hq => ?_, fun i q hq => ?_, fun i k q r hne hq hr => ?_⟩
  · rcases set_get hi with ⟨e1, e2⟩ | ⟨hne, hi⟩
    · rcases set_get hq with ⟨_, e3⟩ | ⟨e, _⟩
      · rw [e2, e3]
        exact hf.apart ho (fun b hb e => by have := hN b hb; omega)
      · exact absurd e1 e
    · rcases set_get hq with ⟨e, _⟩ | ⟨_, hq⟩
      · exact absurd e hne
      · exact (h.each i n0 q hi hq).apart ho (fun b hb e => h.two i q hq b hb (by rw [hv, e]))
  · rcases set_get hq with ⟨_, e3⟩ | ⟨_, hq⟩
    · intro b hb e
      rw [e3] at hb
      rw [hv] at e
      injection e with e
      have := hN b hb
      omega
    · exact h.two i q hq
  · rcases set_get hq with ⟨e1, e2⟩ | ⟨h3, hq2⟩
    · rcases set_get hr with ⟨e3, _⟩ | ⟨h4, hr2⟩
      · exact absurd (e1.trans e3.symm) hne
      · intro b hb hb2
        rw [e2] at hb
        have := hN b hb
        have := hpl k r hr2 b hb2
        omega
    · rcases set_get hr with ⟨e3, e4⟩ | ⟨h4, hr2⟩
      · intro b hb hb2
        rw [e4] at hb2
        have := hN b hb2
        have := hpl i q hq2 b hb
        omega
      · exact h.sep i k q r hne hq2 hr2

theorem allF_nil (b : Nat) : ¬ AllF (.slice none 0 0, []) b := by
  rintro (h | ⟨i, p, h, _⟩)
  · cases h
  · simp at h

/-- a row of empty forms -/
theorem ownFS_made {w : World} {base g n : Nat} (h : w.ownsRow base 28 1 (.slice (some ⟨g, 0, none⟩) n n) n (List.replicate n (.slice none 0 0))) : OwnFS w base (.slice (some ⟨g, 0, none⟩) n n) (List.replicate n (.slice none 0 0, [])) (List.replicate n []) := by
  have hm : ∀ (j : Nat) (p : Value × List (Value × Value)), (List.replicate n ((.slice none 0 0, []) : Value × List (Value × Value)))[j]? = some p → p = (.slice none 0 0, []) := fun j p hp => (List.mem_replicate.1 (List.mem_of_getElem? hp)).2
  refine ⟨by rw [List.length_replicate, List.map_replicate]; exact h, by simp, fun j f p hf hp => ?_, fun j p hp b hb => ?_, fun i j p q _ hp _ b hb => ?_⟩
  · rw [hm j p hp, (List.mem_replicate.1 (List.mem_of_getElem? hf)).2]
    exact OwnF.nil _ _
  · rw [hm j p hp] at hb
    exact absurd hb (allF_nil b)
  · rw [hm i p hp] at hb
    exact absurd hb (allF_nil b)

end Go.Proofs.Ytanjanckkgbnbaa
