/- The model's form of a place: what bounds it, and its steps. -/
import Derived.Test.YtabfdaofikccmaaFmGood
namespace Go.Proofs.Ytabfdaofikccmaa

theorem pig : ∀ (n : Nat) (l : List Nat), (∀ i, i < n → i ∈ l) → n ≤ l.length
  | 0, _, _ => Nat.zero_le _
  | n + 1, l, h => by
    have hm := h n (Nat.lt_succ_self n)
    have h1 := pig n (l.erase n) (fun i hi => (List.mem_erase_of_ne (by omega)).2 (h i (by omega)))
    rw [List.length_erase_of_mem hm] at h1
    have : 0 < l.length := List.length_pos_of_mem hm
    omega
theorem asc_len : ∀ (l : List Nat) (m k : Nat), l.Pairwise (· < ·) → (∀ x ∈ l, m ≤ x ∧ x < k) → l.length ≤ k - m
  | [], _, _, _, _ => Nat.zero_le _
  | x :: l, m, k, h, hx => by
    rw [List.pairwise_cons] at h
    have h0 := hx x (List.mem_cons_self ..)
    have := asc_len l (x + 1) k h.2 (fun y hy => ⟨h.1 y hy, (hx y (List.mem_cons_of_mem _ hy)).2⟩)
    simp only [List.length_cons]
    omega
theorem insNd_len (s : List Nd × List Nat) (x : Nd) (k : Nat) (h : s.1.length = s.2.length) : (insNd s x k).1.length = s.1.length + 1 ∧ (insNd s x k).2.length = s.1.length + 1 := by
  have := takeWhile_len (fun y => ltNd y x) s.1
  unfold insNd
  simp only [List.length_append, List.length_cons, List.length_take, List.length_drop]
  omega
theorem lvl_len (need : Nat → Bool) (b : Nat → Nat) (B : List Nd) (pl : Nat → Nat) (n k : Nat) : (lvl need b B pl n k).1.length = (lvl need b B pl n k).2.length ∧ (lvl need b B pl n k).1.length ≤ k := by
  induction k with
  | zero => exact ⟨rfl, Nat.le_refl _⟩
  | succ k ih =>
    unfold lvl
    split
    · have := insNd_len (lvl need b B pl n k) (movd pl (B.getD k ([], []))) k ih.1
      omega
    · omega
theorem lvl_lt (need : Nat → Bool) (b : Nat → Nat) (B : List Nd) (pl : Nat → Nat) (n k : Nat) : ∀ x ∈ (lvl need b B pl n k).2, x < k := by
  induction k with
  | zero => intro x hx; simp [lvl] at hx
  | succ k ih =>
    unfold lvl
    split
    · intro x hx
      unfold insNd at hx
      simp only [List.mem_append, List.mem_cons] at hx
      rcases hx with hx | rfl | hx
      · have := ih x (List.mem_of_mem_take hx); omega
      · omega
      · have := ih x (List.mem_of_mem_drop hx); omega
    · intro x hx
      have := ih x hx
      omega
theorem setAll_snoc (a : List Nat) (m : Nat) (fr : List Nat) (k : Nat) : setAll a m (fr ++ [k]) = (setAll a m fr).set k (m + fr.length) := by
  induction fr generalizing a m with
  | nil => rfl
  | cons x fr ih =>
    simp only [List.cons_append, setAll, List.length_cons]
    rw [ih, show m + 1 + fr.length = m + (fr.length + 1) from by omega]
theorem setAll_mem (a : List Nat) (m : Nat) (fr : List Nat) : ∀ x ∈ setAll a m fr, x ∈ a ∨ x < m + fr.length := by
  induction fr generalizing a m with
  | nil => intro x hx; exact Or.inl hx
  | cons k fr ih =>
    intro x hx
    unfold setAll at hx
    simp only [List.length_cons]
    rcases ih _ _ x hx with h | h
    · rcases List.mem_or_eq_of_mem_set h with h | rfl
      · exact Or.inl h
      · exact Or.inr (by omega)
    · exact Or.inr (by omega)
theorem form_at (need : Nat → Bool) (b : Nat → Nat) (B : List Nd) (root n : Nat) : ∀ x ∈ (formF need b B root n).1, x ≤ (formF need b B root n).2.length := by
  induction n with
  | zero =>
    intro x hx
    simp only [formF, List.mem_replicate] at hx
    omega
  | succ n ih =>
    intro x hx
    simp only [formF] at hx ⊢
    have hl := lvl_len need b B (fun x => (formF need b B root n).1.getD x 0) n (root + 1)
    rw [List.length_append]
    rcases setAll_mem _ _ _ x hx with h | h
    · have := ih x h; omega
    · omega
theorem form_alen (need : Nat → Bool) (b : Nat → Nat) (B : List Nd) (root n : Nat) : (formF need b B root n).1.length = root + 1 := by
  induction n with
  | zero => simp [formF]
  | succ n ih => simp only [formF, setAll_len, ih]
theorem form_len (need : Nat → Bool) (B : List Nd) (hB : Book B) (root : Nat) (hs : Shut B (fun k => need k = true)) (hr : ∀ k, need k = true → k ≤ root ∧ k < B.length) (n : Nat) :
    (formF need (bOf B) B root n).2.length ≤ B.length := by
  have h := (formF_is need B hB root hs hr n).canon
  have := pig (formF need (bOf B) B root n).2.length ((List.range B.length).map (fun k => (formF need (bOf B) B root n).1.getD k 0)) (fun i hi => by
    obtain ⟨k, hk, _, e⟩ := h.from' i hi
    exact List.mem_map.2 ⟨k, List.mem_range.2 hk, e⟩)
  simpa using this
theorem takeWhile_at {α : Type} (p : α → Bool) : ∀ (l : List α) (i : Nat), i ≤ l.length → (∀ j y, j < i → l[j]? = some y → p y = true) → (∀ y, l[i]? = some y → p y = false) → (l.takeWhile p).length = i
  | [], i, hi, _, _ => by simp at hi; simp [hi]
  | x :: l, 0, _, _, h => by
    have := h x (by simp)
    rw [List.takeWhile_cons, this]
    rfl
  | x :: l, i + 1, hi, h, he => by
    have h0 := h 0 x (by omega) (by simp)
    have := takeWhile_at p l i (by simpa using hi) (fun j y hj hy => h (j + 1) y (by omega) (by simpa using hy)) (fun y hy => he y (by simpa using hy))
    rw [List.takeWhile_cons, h0]
    simp [this]
theorem insNd_at (s : List Nd × List Nat) (x : Nd) (k i : Nat) (hi : i ≤ s.1.length) (h : ∀ j y, j < i → s.1[j]? = some y → ltNd y x = true) (he : ∀ y, s.1[i]? = some y → ltNd y x = false) :
    insNd s x k = (s.1.take i ++ x :: s.1.drop i, s.2.take i ++ k :: s.2.drop i) := by
  have := takeWhile_at (fun y => ltNd y x) s.1 i hi h he
  unfold insNd
  rw [this]

end Go.Proofs.Ytabfdaofikccmaa
