/- The texts of a form's nodes, as plain lists of bytes. -/
import Derived.Test.YthpibeogphcnhaaFmGood
namespace Go.Proofs.Ythpibeogphcnhaa
set_option linter.unusedVariables false
set_option linter.unusedSimpArgs false

/-- texts put together with commas between -/
def jC : List (List UInt8) → List UInt8
  | [] => []
  | x :: r => x ++ r.flatMap (fun y => 44 :: y)

theorem jC_zero (l : List (List UInt8)) : jC (l.take 0) = [] := by simp [jC]
theorem jC_one (l : List (List UInt8)) (x : List UInt8) (h : l[0]? = some x) : jC (l.take 1) = x := by
  cases l with
  | nil => simp at h
  | cons y r => simp at h; subst h; simp [jC]
theorem jC_succ (l : List (List UInt8)) (k : Nat) (x : List UInt8) (h : l[k]? = some x) (h0 : 0 < k) : jC (l.take (k + 1)) = jC (l.take k) ++ [44] ++ x := by
  cases l with
  | nil => simp at h
  | cons y r =>
    obtain ⟨j, rfl⟩ : ∃ j, k = j + 1 := ⟨k - 1, by omega⟩
    rw [List.getElem?_cons_succ] at h
    have hj := get_lt h
    rw [List.take_succ_cons, List.take_succ_cons, List.take_succ_eq_append_getElem hj]
    rw [List.getElem?_eq_getElem hj] at h
    injection h with h
    rw [h]
    simp [jC, List.flatMap_append]

theorem jC_mem (l : List (List UInt8)) (x : List UInt8) (h : x ∈ l) : x.length ≤ (jC l).length := by
  cases l with
  | nil => cases h
  | cons y r =>
    simp only [jC, List.length_append]
    rcases List.mem_cons.1 h with rfl | h
    · omega
    · have : ∀ (r : List (List UInt8)), x ∈ r → x.length ≤ (r.flatMap (fun y => (44 : UInt8) :: y)).length := fun r => by
        induction r with
        | nil => intro h; cases h
        | cons z r ih =>
          intro h
          simp only [List.flatMap_cons, List.length_append, List.length_cons]
          rcases List.mem_cons.1 h with rfl | h
          · omega
          · have := ih h; omega
      have := this r h
      omega

theorem jC_len (l : List (List UInt8)) (m : Nat) (h : ∀ x ∈ l, x.length ≤ m) : (jC l).length ≤ l.length * (m + 1) := by
  cases l with
  | nil => simp [jC]
  | cons y r =>
    have : ∀ (r : List (List UInt8)), (∀ x ∈ r, x.length ≤ m) → (r.flatMap (fun y => (44 : UInt8) :: y)).length ≤ r.length * (m + 1) := fun r => by
      induction r with
      | nil => intro _; simp
      | cons z r ih =>
        intro h
        have h1 := ih (fun x hx => h x (List.mem_cons_of_mem _ hx))
        have h2 := h z List.mem_cons_self
        simp only [List.flatMap_cons, List.length_append, List.length_cons, Nat.add_mul, Nat.one_mul]
        omega
    have h1 := this r (fun x hx => h x (List.mem_cons_of_mem _ hx))
    have h2 := h y List.mem_cons_self
    simp only [jC, List.length_append, List.length_cons, Nat.add_mul, Nat.one_mul]
    omega

/-- the text of a node, its options' texts being given -/
def txtN (t : List (List UInt8)) (nd : Nd) : List UInt8 := [123] ++ jC (nd.1.map (fun x => t.getD x [])) ++ [124] ++ jC (nd.2.map (fun x => t.getD x [])) ++ [125]

def textsF (f : List Nd) : List (List UInt8) := f.foldl (fun ts nd => ts ++ [txtN ts nd]) []
/-- as the model makes them: a text that is too long is cut -/
def textsC (f : List Nd) : List (List UInt8) := f.foldl (fun ts nd => ts ++ [(txtN ts nd).take 4001]) []

theorem textsF_snoc (f : List Nd) (nd : Nd) : textsF (f ++ [nd]) = textsF f ++ [txtN (textsF f) nd] := by simp [textsF, List.foldl_append]
theorem textsC_snoc (f : List Nd) (nd : Nd) : textsC (f ++ [nd]) = textsC f ++ [(txtN (textsC f) nd).take 4001] := by simp [textsC, List.foldl_append]
theorem textsF_len (f : List Nd) : (textsF f).length = f.length := by
  induction f using snocInd with
  | nil => rfl
  | snoc f nd ih => rw [textsF_snoc]; simp [ih]
theorem textsC_len (f : List Nd) : (textsC f).length = f.length := by
  induction f using snocInd with
  | nil => rfl
  | snoc f nd ih => rw [textsC_snoc]; simp [ih]
theorem textsF_take (f : List Nd) (k : Nat) (nd : Nd) (h : f[k]? = some nd) : textsF (f.take (k + 1)) = textsF (f.take k) ++ [txtN (textsF (f.take k)) nd] := by
  have hk := get_lt h
  rw [List.take_succ_eq_append_getElem hk]
  rw [List.getElem?_eq_getElem hk] at h
  injection h with h
  rw [h, textsF_snoc]
theorem textsC_take (f : List Nd) (k : Nat) (nd : Nd) (h : f[k]? = some nd) : textsC (f.take (k + 1)) = textsC (f.take k) ++ [(txtN (textsC (f.take k)) nd).take 4001] := by
  have hk := get_lt h
  rw [List.take_succ_eq_append_getElem hk]
  rw [List.getElem?_eq_getElem hk] at h
  injection h with h
  rw [h, textsC_snoc]

theorem textsC_pre (a c : List Nd) : textsC a <+: textsC (a ++ c) := by
  induction c using snocInd with
  | nil => simp
  | snoc c nd ih => rw [← List.append_assoc, textsC_snoc]; exact ih.trans (List.prefix_append _ _)
theorem textsF_pre (a c : List Nd) : textsF a <+: textsF (a ++ c) := by
  induction c using snocInd with
  | nil => simp
  | snoc c nd ih => rw [← List.append_assoc, textsF_snoc]; exact ih.trans (List.prefix_append _ _)

theorem textsC_at (f : List Nd) (k : Nat) (nd : Nd) (h : f[k]? = some nd) : (textsC f)[k]? = some ((txtN (textsC (f.take k)) nd).take 4001) := by
  have h1 := textsC_pre (f.take (k + 1)) (f.drop (k + 1))
  rw [List.take_append_drop] at h1
  refine get_pre h1 ?_
  rw [textsC_take f k nd h, List.getElem?_append_right (by rw [textsC_len, List.length_take]; omega)]
  have : k - (textsC (f.take k)).length = 0 := by rw [textsC_len, List.length_take]; have := get_lt h; omega
  rw [this]
  rfl
theorem textsF_at (f : List Nd) (k : Nat) (nd : Nd) (h : f[k]? = some nd) : (textsF f)[k]? = some (txtN (textsF (f.take k)) nd) := by
  have h1 := textsF_pre (f.take (k + 1)) (f.drop (k + 1))
  rw [List.take_append_drop] at h1
  refine get_pre h1 ?_
  rw [textsF_take f k nd h, List.getElem?_append_right (by rw [textsF_len, List.length_take]; omega)]
  have : k - (textsF (f.take k)).length = 0 := by rw [textsF_len, List.length_take]; have := get_lt h; omega
  rw [this]
  rfl

/-- as long as no text is too long nothing is cut -/
theorem texts_same (f : List Nd) (k : Nat) (hk : k ≤ f.length) (h : ∀ t ∈ textsF (f.take k), t.length ≤ 4000) : textsC (f.take k) = textsF (f.take k) := by
  induction k with
  | zero => simp [textsC, textsF]
  | succ k ih =>
    obtain ⟨nd, hnd⟩ := lt_get (l := f) (i := k) (by omega)
    rw [textsF_take f k nd hnd] at h ⊢
    rw [textsC_take f k nd hnd, ih (by omega) (fun t ht => h t (List.mem_append.2 (Or.inl ht)))]
    have := h (txtN (textsF (f.take k)) nd) (by simp)
    have e : (txtN (textsF (f.take k)) nd).take 4001 = txtN (textsF (f.take k)) nd := List.take_of_length_le (by omega)
    rw [e]

theorem txtN_opt (t : List (List UInt8)) (nd : Nd) (x : Nat) (h : x ∈ nd.1 ∨ x ∈ nd.2) : (t.getD x []).length + 3 ≤ (txtN t nd).length := by
  unfold txtN
  simp only [List.length_append, List.length_singleton]
  rcases h with h | h
  · have := jC_mem (nd.1.map (fun x => t.getD x [])) _ (List.mem_map.2 ⟨x, h, rfl⟩)
    omega
  · have := jC_mem (nd.2.map (fun x => t.getD x [])) _ (List.mem_map.2 ⟨x, h, rfl⟩)
    omega

theorem txt_getD_take {f : List Nd} (k x : Nat) (hx : x < k) (hk : k ≤ f.length) : (textsC (f.take k)).getD x [] = (textsC f).getD x [] := by
  have h1 := textsC_pre (f.take k) (f.drop k)
  rw [List.take_append_drop] at h1
  obtain ⟨y, hy⟩ := lt_get (l := textsC (f.take k)) (i := x) (by rw [textsC_len, List.length_take]; omega)
  rw [List.getD_eq_getElem?_getD, List.getD_eq_getElem?_getD, hy, get_pre h1 hy]

/-- where a text is too long, so is the last -/
theorem cut_last {f : List Nd} (hu : Under f) (h : Used f) (d : Nat) : ∀ i, i + d + 1 = f.length → 4000 < ((textsC f).getD i []).length → 4000 < ((textsC f).getD (f.length - 1) []).length := by
  induction d using Nat.strongRecOn with
  | ind d ih =>
    intro i hi hl
    rcases Nat.eq_zero_or_pos d with rfl | hp
    · rw [show f.length - 1 = i from by omega]; exact hl
    · obtain ⟨k, nd, hk, hx⟩ := h i (by omega)
      have hkl := get_lt hk
      have hik := hu k nd hk i hx
      refine ih (f.length - 1 - k) (by omega) k (by omega) ?_
      have h1 := txtN_opt (textsC (f.take k)) nd i hx
      rw [txt_getD_take k i hik (by omega)] at h1
      rw [List.getD_eq_getElem?_getD, textsC_at f k nd hk]
      simp only [Option.getD_some, List.length_take]
      omega

/-- A FORM'S TEXT: what the program makes is what the model makes -/
def longF (f : List Nd) : Bool := (textsF f).any (fun t => decide (4000 < t.length))

theorem text_long {f : List Nd} (hu : Under f) (h : Used f) (h0 : 0 < f.length) : decide (4000 < ((textsC f).getD (f.length - 1) []).length) = longF f := by
  rw [Bool.eq_iff_iff, decide_eq_true_iff]
  unfold longF
  rw [List.any_eq_true]
  constructor
  · intro hl
    refine Classical.byContradiction fun hn => ?_
    have hs := texts_same f f.length (Nat.le_refl _) (fun t ht => by
      rw [List.take_length] at ht
      refine Nat.le_of_not_lt fun hlt => hn ⟨t, ht, by simpa using hlt⟩)
    rw [List.take_length] at hs
    rw [hs] at hl
    obtain ⟨y, hy⟩ := lt_get (l := textsF f) (i := f.length - 1) (by rw [textsF_len]; omega)
    rw [List.getD_eq_getElem?_getD, hy] at hl
    exact hn ⟨y, List.mem_of_getElem? hy, by simpa using hl⟩
  · rintro ⟨t, ht, hl⟩
    -- the first one that is too long
    have key : ∀ k, k ≤ f.length → (∀ t ∈ textsF (f.take k), t.length ≤ 4000) ∨ ∃ i, i < k ∧ 4000 < ((textsC f).getD i []).length := fun k => by
      induction k with
      | zero => intro _; left; intro t ht; simp [textsF] at ht
      | succ k ih =>
        intro hk
        rcases ih (by omega) with h1 | ⟨i, h1, h2⟩
        · obtain ⟨nd, hnd⟩ := lt_get (l := f) (i := k) (by omega)
          by_cases hlt : (txtN (textsF (f.take k)) nd).length ≤ 4000
          · left
            rw [textsF_take f k nd hnd]
            intro t ht
            rcases List.mem_append.1 ht with ht | ht
            · exact h1 t ht
            · simp at ht; subst ht; exact hlt
          · right
            refine ⟨k, by omega, ?_⟩
            rw [List.getD_eq_getElem?_getD, textsC_at f k nd hnd, texts_same f k (by omega) h1]
            simp only [Option.getD_some, List.length_take]
            omega
        · exact Or.inr ⟨i, by omega, h2⟩
    rcases key f.length (Nat.le_refl _) with h1 | ⟨i, h1, h2⟩
    · rw [List.take_length] at h1
      have := h1 t ht
      simp at hl
      omega
    · exact cut_last hu h (f.length - 1 - i) i (by omega) h2

theorem text_same {f : List Nd} (hl : longF f = false) : textsC f = textsF f := by
  have := texts_same f f.length (Nat.le_refl _) (fun t ht => by
    rw [List.take_length] at ht
    refine Nat.le_of_not_lt fun hlt => ?_
    have : longF f = true := by unfold longF; rw [List.any_eq_true]; exact ⟨t, ht, by simpa using hlt⟩
    rw [hl] at this; cases this)
  rwa [List.take_length] at this

end Go.Proofs.Ythpibeogphcnhaa
