/- What is cut at a byte is put together again. -/
import Derived.Test.YtjildaahoclojaaDoorCutL
import Derived.Test.YtjildaahoclojaaDoorJoinMath
namespace Go.Proofs.YtjildaahoclojaaDoor

theorem join_cut (b : UInt8) : ∀ l : List UInt8, Lib.join (cutL b l) [b] = l
  | [] => by simp [cutL, Lib.join_one]
  | x :: l => by
    have ih := join_cut b l
    have hne := cutL_ne b l
    match hc : cutL b l with
    | [] => exact absurd hc hne
    | y :: r =>
      rw [hc, Lib.join_cons] at ih
      by_cases hx : x = b
      · rw [cutL, if_pos hx, hc, Lib.join_cons]
        have : Lib.joinTail [b] (y :: r) = [b] ++ y ++ Lib.joinTail [b] r := by simp [Lib.joinTail]
        rw [this, List.nil_append, List.append_assoc, ih, hx]
        rfl
      · rw [cutL, if_neg hx, hc, Lib.join_cons]
        show x :: y ++ Lib.joinTail [b] r = x :: l
        rw [List.cons_append, ih]

theorem cutL_none_has (b : UInt8) : ∀ (l : List UInt8) (p : List UInt8), p ∈ cutL b l → hasB p b = false
  | [], p, h => by
    simp [cutL] at h
    subst h
    rfl
  | x :: l, p, h => by
    have ih := cutL_none_has b l
    have hne := cutL_ne b l
    match hc : cutL b l with
    | [] => exact absurd hc hne
    | y :: r =>
      rw [hc] at ih
      by_cases hx : x = b
      · rw [cutL, if_pos hx, hc] at h
        rcases List.mem_cons.1 h with rfl | h
        · rfl
        · exact ih p h
      · rw [cutL, if_neg hx, hc] at h
        rcases List.mem_cons.1 h with rfl | h
        · have := ih y (by simp)
          unfold hasB at this ⊢
          simp only [List.headD_cons, List.contains_cons, this, Bool.or_false]
          simp [Ne.symm hx]
        · exact ih p (by simp only [List.tail_cons] at h; simp [h])

theorem sp_join (s : ByteArray) (b : UInt8) : jnL (spAll s b) b (spAll s b).length = s.data.toList := by
  unfold jnL dat
  rw [List.take_length, spAll_cut, join_cut]

theorem sp_none (s : ByteArray) (b : UInt8) : noneHas (spAll s b) b := by
  intro x hx
  refine cutL_none_has b s.data.toList x.data.toList ?_
  rw [← spAll_cut]
  exact List.mem_map_of_mem hx

theorem sp_joinTo {s : ByteArray} {b : UInt8} (hs : s.size ≤ 4000) : JoinTo (spAll s b) ⟨#[b]⟩ (.returned (.tuple #[.string s, .bool true])) := by
  have h1 : 0 < (spAll s b).length := by simp [spAll]
  have h2 := sp_join s b
  have h3 := joinTo_yes h1 (sp_none s b) (by rw [h2]; simpa using hs)
  rw [h2] at h3
  have h4 : (⟨s.data.toList.toArray⟩ : ByteArray) = s := by simp
  rw [h4] at h3
  exact h3

theorem less_not : ∀ a b : List UInt8, Op.bytesLess a b = true → Op.bytesLess b a = false
  | [], [], h => by simp [Op.bytesLess] at h
  | _ :: _, [], h => by simp [Op.bytesLess] at h
  | [], _ :: _, _ => rfl
  | x :: a, y :: b, h => by
    simp only [Op.bytesLess, Bool.or_eq_true, decide_eq_true_eq, Bool.and_eq_true, beq_iff_eq] at h
    simp only [Op.bytesLess, Bool.or_eq_false_iff, decide_eq_false_iff_not, Bool.and_eq_false_iff, beq_eq_false_iff_ne]
    rcases h with h | ⟨rfl, h⟩
    · have h' := UInt8.lt_iff_toNat_lt.1 h
      refine ⟨fun hh => by have := UInt8.lt_iff_toNat_lt.1 hh; omega, Or.inl (fun e => by subst e; omega)⟩
    · exact ⟨fun hh => by have := UInt8.lt_iff_toNat_lt.1 hh; omega, Or.inr (less_not a b h)⟩

end Go.Proofs.YtjildaahoclojaaDoor
