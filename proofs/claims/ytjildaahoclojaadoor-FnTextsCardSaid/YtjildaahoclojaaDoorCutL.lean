/- Cutting a list of bytes at a byte: the two ways of the program and of the library are one. -/
import Derived.Test.YtjildaahoclojaaDoorOpenMath
import Derived.Lib.Split
namespace Go.Proofs.YtjildaahoclojaaDoor

/-- a list cut at each byte b -/
def cutL (b : UInt8) : List UInt8 → List (List UInt8)
  | [] => [[]]
  | x :: l => if x = b then [] :: cutL b l else (x :: (cutL b l).headD []) :: (cutL b l).tail

theorem cutL_ne (b : UInt8) : ∀ l, cutL b l ≠ []
  | [] => by simp [cutL]
  | x :: l => by unfold cutL; split <;> simp

theorem cutL_hit (b : UInt8) : ∀ (l : List UInt8) (m : Nat), (∀ j, j < m → l[j]? ≠ some b) → l[m]? = some b → cutL b l = l.take m :: cutL b (l.drop (m + 1))
  | [], m, _, h => by simp at h
  | x :: l, 0, _, h => by
    simp at h
    simp [cutL, h]
  | x :: l, m + 1, h1, h2 => by
    have hx : ¬ x = b := fun e => h1 0 (by omega) (by simp [e])
    have ih := cutL_hit b l m (fun j hj => by have := h1 (j + 1) (by omega); simpa using this) (by simpa using h2)
    rw [cutL, if_neg hx, ih]
    simp

theorem cutL_none (b : UInt8) : ∀ (l : List UInt8), (∀ j, j < l.length → l[j]? ≠ some b) → cutL b l = [l]
  | [], _ => rfl
  | x :: l, h => by
    have hx : ¬ x = b := fun e => h 0 (by simp) (by simp [e])
    have ih := cutL_none b l (fun j hj => by have := h (j + 1) (by simpa using hj); simpa using this)
    rw [cutL, if_neg hx, ih]
    simp

theorem data_extract (s : ByteArray) (a b : Nat) : (s.extract a b).data.toList = (s.data.toList.drop a).take (b - a) := Lib.extract_data s a b

theorem spSt_cut (s : ByteArray) (b : UInt8) : ∀ k, k ≤ s.size →
    (∀ j, (spSt s b k).2 ≤ j → j < k → s.data.toList[j]? ≠ some b) ∧ cutL b s.data.toList = (spSt s b k).1.map (·.data.toList) ++ cutL b (s.data.toList.drop (spSt s b k).2)
  | 0, _ => ⟨fun j _ hj => by omega, by simp [spSt]⟩
  | k + 1, hk => by
    obtain ⟨h1, h2⟩ := spSt_cut s b k (by omega)
    have hf := (spSt_le s b k).1
    by_cases hb : s.data.toList[k]? = some b
    · rw [spSt, if_pos hb]
      refine ⟨fun j hj hj2 => by simp at hj; omega, ?_⟩
      rw [h2, cutL_hit b (s.data.toList.drop (spSt s b k).2) (k - (spSt s b k).2) (fun j hj => by
        rw [List.getElem?_drop]; exact h1 _ (by omega) (by omega)) (by rw [List.getElem?_drop, show (spSt s b k).2 + (k - (spSt s b k).2) = k from by omega]; exact hb)]
      rw [List.drop_drop, show (spSt s b k).2 + (k - (spSt s b k).2 + 1) = k + 1 from by omega]
      simp
    · rw [spSt, if_neg hb]
      refine ⟨fun j hj hj2 => ?_, h2⟩
      by_cases e : j = k
      · subst e; exact hb
      · exact h1 j hj (by omega)

theorem spAll_cut (s : ByteArray) (b : UInt8) : (spAll s b).map (·.data.toList) = cutL b s.data.toList := by
  obtain ⟨h1, h2⟩ := spSt_cut s b s.size (Nat.le_refl _)
  have hf := (spSt_le s b s.size).1
  have hl : s.data.toList.length = s.size := by simp
  rw [h2, cutL_none b (s.data.toList.drop (spSt s b s.size).2) (fun j hj => by
    rw [List.getElem?_drop]; rw [List.length_drop] at hj; exact h1 _ (by omega) (by omega))]
  unfold spAll
  rw [List.map_append, List.map_singleton, data_extract]
  rw [List.take_of_length_le (by rw [List.length_drop]; omega)]

theorem splitK_cut (b : UInt8) : ∀ (n : Nat) (l : List UInt8), l.length ≤ n → Lib.splitK [b] 0 (Lib.count l [b]) l = cutL b l ∧ (cutL b l).length = Lib.count l [b] + 1
  | n, l, hn => by
    have hge := Lib.indexByte_ge l b
    by_cases h : Lib.indexByte l b = -1
    · have hc : Lib.count l [b] = 0 := Lib.count_miss (by rw [Lib.index_one]; exact h)
      have hno := cutL_none b l (fun j _ => Lib.indexByte_none h j)
      rw [hc, hno]
      exact ⟨rfl, rfl⟩
    · obtain ⟨o, ho⟩ := Int.eq_ofNat_of_zero_le (show 0 ≤ Lib.indexByte l b by omega)
      obtain ⟨h1, h2⟩ := Lib.indexByte_some ho
      have hi : Lib.index l [b] = (o : Int) := by rw [Lib.index_one]; exact ho
      have hc := Lib.count_hit (sub := [b]) (by simp) hi
      have hcut := cutL_hit b l o h2 h1
      have hol : o < l.length := by
        rcases Nat.lt_or_ge o l.length with h3 | h3
        · exact h3
        · rw [List.getElem?_eq_none h3] at h1; cases h1
      match n with
      | 0 => omega
      | n + 1 =>
        obtain ⟨i1, i2⟩ := splitK_cut b n (l.drop (o + 1)) (by rw [List.length_drop]; omega)
        have hc' : Lib.count l [b] = Lib.count (l.drop (o + 1)) [b] + 1 := by rw [hc]; simp [Nat.add_comm]
        rw [hc', hcut]
        constructor
        · rw [Lib.splitK, if_neg (by rw [hi]; intro e; have := beq_iff_eq.1 e; omega), hi]
          simp only [Int.toNat_natCast, Nat.add_zero, List.length_singleton]
          rw [i1]
        · rw [List.length_cons, i2]

theorem splitB_sp (s : ByteArray) (b : UInt8) : Lib.splitB ⟨#[b]⟩ 0 (Lib.countB s ⟨#[b]⟩) s = spAll s b ∧ (spAll s b).length = Lib.countB s ⟨#[b]⟩ + 1 := by
  obtain ⟨h1, h2⟩ := splitK_cut b s.data.toList.length s.data.toList (Nat.le_refl _)
  constructor
  · have h3 := Lib.splitB_data ⟨#[b]⟩ 0 (Lib.countB s ⟨#[b]⟩) s
    have h4 : (Lib.splitB ⟨#[b]⟩ 0 (Lib.countB s ⟨#[b]⟩) s).map (·.data.toList) = (spAll s b).map (·.data.toList) := by
      rw [h3, spAll_cut]
      exact h1
    exact (List.map_inj_right fun x y e => ByteArray.ext (Array.toList_inj.mp e)).1 h4
  · have h5 := congrArg List.length (spAll_cut s b)
    rw [List.length_map] at h5
    rw [h5, h2]

end Go.Proofs.YtjildaahoclojaaDoor
