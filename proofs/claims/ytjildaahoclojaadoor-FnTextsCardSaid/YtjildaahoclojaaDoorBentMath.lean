/- A sealed text in which one byte was changed is no sealed text with a text of that length. -/
import Derived.Test.YtjildaahoclojaaDoorOpenMath
import Derived.Test.YtjildaahoclojaaDoorReadMath
namespace Go.Proofs.YtjildaahoclojaaDoor

def stepI (h : Int) (c : UInt8) : Int := (37 * h + (c.toNat : Int) + 1) % 999983

theorem stepI_bd (h : Int) (c : UInt8) : 0 ≤ stepI h c ∧ stepI h c < 999983 := by
  unfold stepI
  exact ⟨Int.emod_nonneg _ (by decide), Int.emod_lt_of_pos _ (by decide)⟩

theorem stepI_inj {h k : Int} {c : UInt8} (h0 : 0 ≤ h) (h1 : h < 999983) (k0 : 0 ≤ k) (k1 : k < 999983) (e : stepI h c = stepI k c) : h = k := by
  unfold stepI at e
  omega

theorem stepI_ne {h : Int} {c d : UInt8} (e : stepI h c = stepI h d) : c = d := by
  unfold stepI at e
  have hc := c.toNat_lt
  have hd := d.toNat_lt
  exact UInt8.toNat_inj.1 (by omega)

theorem fold_inj : ∀ (l : List UInt8) (h k : Int), 0 ≤ h → h < 999983 → 0 ≤ k → k < 999983 → l.foldl stepI h = l.foldl stepI k → h = k
  | [], h, k, _, _, _, _, e => e
  | c :: l, h, k, h0, h1, k0, k1, e => by
    have b1 := stepI_bd h c
    have b2 := stepI_bd k c
    exact stepI_inj h0 h1 k0 k1 (fold_inj l (stepI h c) (stepI k c) b1.1 b1.2 b2.1 b2.2 e)

theorem sumL_fold (l : List UInt8) : sumL l = l.foldl stepI 5 := rfl

theorem fold_set : ∀ (l : List UInt8) (k : Nat) (c : UInt8) (h : Int), k < l.length → (l.set k c).foldl stepI h = l.foldl stepI h → 0 ≤ h → h < 999983 → l[k]? = some c
  | [], k, c, h, hk, _, _, _ => by simp at hk
  | x :: l, 0, c, h, _, e, h0, h1 => by
    simp only [List.set_cons_zero, List.foldl_cons] at e
    have b1 := stepI_bd h c
    have b2 := stepI_bd h x
    have := stepI_ne (fold_inj l _ _ b1.1 b1.2 b2.1 b2.2 e)
    simp [this]
  | x :: l, k + 1, c, h, hk, e, h0, h1 => by
    simp only [List.set_cons_succ, List.foldl_cons] at e
    have b2 := stepI_bd h x
    have := fold_set l k c (stepI h x) (by simpa using hk) e b2.1 b2.2
    simpa using this

theorem bent_no (x t : List UInt8) (k : Nat) (c : UInt8) (hk : k < (sealL x).length) (hc : (sealL x)[k]? ≠ some c) (e : (sealL x).set k c = sealL t) : t.length ≠ x.length := by
  intro hl
  have hy : sealL x = x ++ ([35] ++ Lib.itoa (sumL x)) := by simp [sealL]
  have ht : sealL t = t ++ ([35] ++ Lib.itoa (sumL t)) := by simp [sealL]
  rw [hy] at e hc hk
  rw [ht] at e
  by_cases h : k < x.length
  · rw [List.set_append_left _ _ h] at e
    obtain ⟨e1, e2⟩ := List.append_inj e (by rw [List.length_set, hl])
    have e3 : Lib.itoa (sumL x) = Lib.itoa (sumL t) := by
      have := List.append_cancel_left e2
      exact this
    have b1 := sumL_bd x
    have b2 := sumL_bd t
    have e4 := itoa_inj (by omega) (by omega) (by omega) (by omega) e3
    rw [← e1, sumL_fold, sumL_fold] at e4
    have := fold_set x k c 5 h e4.symm (by omega) (by omega)
    rw [List.getElem?_append_left h] at hc
    exact hc this
  · rw [List.set_append_right _ _ (by omega)] at e
    obtain ⟨e1, e2⟩ := List.append_inj e hl.symm
    subst e1
    have hk2 : k - x.length < ([35] ++ Lib.itoa (sumL x)).length := by rw [List.length_append] at hk; omega
    have e3 : (([35] ++ Lib.itoa (sumL x)).set (k - x.length) c)[k - x.length]? = some c := by
      rw [List.getElem?_set_self hk2]
    rw [e2] at e3
    rw [List.getElem?_append_right (by omega)] at hc
    exact hc e3

/-- what OpenText answers -/
def openR (s : ByteArray) : ByteArray × Bool :=
  if s.size ≤ 4000 ∧ sealL (preL s.data.toList 35) = s.data.toList then (⟨(preL s.data.toList 35).toArray⟩, true) else (⟨#[]⟩, false)

theorem openR_true {s : ByteArray} (h : (openR s).2 = true) : sealL (openR s).1.data.toList = s.data.toList := by
  unfold openR at h ⊢
  split at h
  · rename_i hh
    rw [if_pos hh]
    exact hh.2
  · cases h

theorem preL_seal {x : List UInt8} (h : hasB x 35 = false) : preL (sealL x) 35 = x := by
  have hy : sealL x = x ++ ([35] ++ Lib.itoa (sumL x)) := by simp [sealL]
  rw [hy, preL_stop 35 _ x.length (fun j hj => by
    rw [List.getElem?_append_left hj]
    intro e
    unfold hasB at h
    have hm : (35 : UInt8) ∈ x := List.mem_of_getElem? e
    have : x.contains 35 = true := by rw [List.contains_iff_mem]; exact hm
    rw [this] at h
    cases h) (by rw [List.getElem?_append_right (Nat.le_refl _)]; simp)]
  exact List.take_left' rfl

theorem openR_seal {x s : ByteArray} (h : hasB x.data.toList 35 = false) (hs : s.data.toList = sealL x.data.toList) (hl : s.size ≤ 4000) : openR s = (x, true) := by
  unfold openR
  rw [if_pos ⟨hl, by rw [hs, preL_seal h]⟩, hs, preL_seal h]

end Go.Proofs.YtjildaahoclojaaDoor
