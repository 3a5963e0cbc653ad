/- What stands before the first mark, by both ways of cutting. -/
import Derived.Test.YtlblkmhiildgeaaDoorSealMath
import Derived.Test.YtlblkmhiildgeaaDoorSplitMath
import Derived.Lib.IndexMore
import Derived.Lib.IndexLaws
namespace Go.Proofs.YtlblkmhiildgeaaDoor

/-- what stands before the first byte b -/
def preL (l : List UInt8) (b : UInt8) : List UInt8 := l.takeWhile (· != b)

theorem preL_stop (b : UInt8) : ∀ (l : List UInt8) (k : Nat), (∀ j, j < k → l[j]? ≠ some b) → l[k]? = some b → preL l b = l.take k
  | [], k, _, h => by simp at h
  | x :: l, 0, _, h => by
    simp at h
    simp [preL, h]
  | x :: l, k + 1, h1, h2 => by
    have hx : x ≠ b := fun e => h1 0 (by omega) (by simp [e])
    have ih := preL_stop b l k (fun j hj => by have := h1 (j + 1) (by omega); simpa using this) (by simpa using h2)
    unfold preL at ih ⊢
    simp [hx, ih]

theorem preL_none (b : UInt8) : ∀ (l : List UInt8), (∀ j, j < l.length → l[j]? ≠ some b) → preL l b = l
  | [], _ => rfl
  | x :: l, h => by
    have hx : x ≠ b := fun e => h 0 (by simp) (by simp [e])
    have ih := preL_none b l (fun j hj => by have := h (j + 1) (by simpa using hj); simpa using this)
    unfold preL at ih ⊢
    simp [hx, ih]

theorem preL_has (l : List UInt8) (b : UInt8) : hasB (preL l b) b = false := by
  unfold hasB preL
  induction l with
  | nil => rfl
  | cons x l ih =>
    by_cases h : x = b
    · simp [h]
    · simp only [List.takeWhile_cons]
      have : (x != b) = true := by simp [h]
      rw [this]
      simp only [List.contains_cons, ite_true]
      rw [ih]
      simp [Ne.symm h]

theorem preL_le (l : List UInt8) (b : UInt8) : (preL l b).length ≤ l.length := by
  unfold preL
  exact (List.takeWhile_prefix _).length_le

theorem cut_pre (l : List UInt8) (b : UInt8) : (Lib.cut l [b]).1 = preL l b := by
  unfold Lib.cut
  rw [Lib.index_one]
  by_cases h : 0 ≤ Lib.indexByte l b
  · rw [if_pos h]
    obtain ⟨o, ho⟩ := Int.eq_ofNat_of_zero_le h
    obtain ⟨h1, h2⟩ := Lib.indexByte_some ho
    rw [ho]
    exact (preL_stop b l o h2 h1).symm
  · rw [if_neg h]
    have hg := Lib.indexByte_ge l b
    have hm : Lib.indexByte l b = -1 := by omega
    have := Lib.indexByte_none hm
    exact (preL_none b l (fun j _ => this j)).symm

theorem spSt_pre (s : ByteArray) (b : UInt8) : ∀ k, k ≤ s.size →
    ((∀ j, j < k → s.data.toList[j]? ≠ some b) ∧ spSt s b k = ([], 0)) ∨ (spSt s b k).1[0]? = some ⟨(preL s.data.toList b).toArray⟩
  | 0, _ => Or.inl ⟨fun j hj => by omega, rfl⟩
  | k + 1, hk => by
    have h := spSt_pre s b k (by omega)
    by_cases hb : s.data.toList[k]? = some b
    · right
      rw [spSt, if_pos hb]
      rcases h with ⟨h1, h2⟩ | h
      · rw [h2, preL_stop b _ k h1 hb]
        simp only [List.nil_append, List.getElem?_cons_zero]
        rw [ba_eta (s.extract 0 k), Lib.extract_from_zero]
      · rw [List.getElem?_append_left (by
          rcases Nat.lt_or_ge 0 (spSt s b k).1.length with h3 | h3
          · exact h3
          · rw [List.getElem?_eq_none h3] at h; cases h)]
        exact h
    · rw [spSt, if_neg hb]
      rcases h with ⟨h1, h2⟩ | h
      · left
        refine ⟨fun j hj => ?_, h2⟩
        by_cases e : j = k
        · subst e; exact hb
        · exact h1 j (by omega)
      · exact Or.inr h

theorem spAll_head (s : ByteArray) (b : UInt8) : (spAll s b)[0]? = some ⟨(preL s.data.toList b).toArray⟩ := by
  unfold spAll
  rcases spSt_pre s b s.size (Nat.le_refl _) with ⟨h1, h2⟩ | h
  · rw [h2]
    simp only [List.nil_append, List.getElem?_cons_zero]
    rw [ba_eta (s.extract 0 s.size), Lib.extract_from_zero, preL_none b _ (fun j hj => h1 j (by simpa using hj)), take_all]
  · rw [List.getElem?_append_left (by
      rcases Nat.lt_or_ge 0 (spSt s b s.size).1.length with h3 | h3
      · exact h3
      · rw [List.getElem?_eq_none h3] at h; cases h)]
    exact h

end Go.Proofs.YtlblkmhiildgeaaDoor
