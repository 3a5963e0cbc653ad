/- What is reached from a node; nodes as they lie in memory, as whole numbers; and which of them make a form. -/
import Derived.Test.YtabfdaofikccmaaFmBook
namespace Go.Proofs.Ytabfdaofikccmaa

/-- places marked -/
def markAll (o : List Bool) (l : List Nat) : List Bool := l.foldl (fun o x => o.set x true) o
theorem markAll_len (o : List Bool) (l : List Nat) : (markAll o l).length = o.length := by
  unfold markAll
  induction l generalizing o with
  | nil => rfl
  | cons x l ih => rw [List.foldl_cons, ih]; simp
theorem markAll_get (o : List Bool) (l : List Nat) (i : Nat) (hl : ∀ x ∈ l, x < o.length) : (markAll o l).getD i false = (o.getD i false || decide (i ∈ l)) := by
  unfold markAll
  induction l generalizing o with
  | nil => simp
  | cons x l ih =>
    rw [List.foldl_cons, ih (o.set x true) (fun y hy => by simpa using hl y (List.mem_cons_of_mem _ hy))]
    have hx := hl x (List.mem_cons_self ..)
    by_cases hi : i = x
    · subst hi
      simp [List.getD_eq_getElem?_getD, hx]
    · have : (o.set x true).getD i false = o.getD i false := by
        simp [List.getD_eq_getElem?_getD, List.getElem?_set_ne (Ne.symm hi)]
      rw [this]
      simp [hi]
/-- going down from k: what a reached node has is reached -/
def reachD (B : List Nd) : Nat → List Bool → List Bool
  | 0, o => o
  | k + 1, o => reachD B k (if o.getD k false then markAll (markAll o (B.getD k ([], [])).1) (B.getD k ([], [])).2 else o)
/-- what is reached from a root -/
def reachF (B : List Nd) (root : Nat) : List Bool := reachD B (root + 1) ((List.replicate (root + 1) false).set root true)
theorem reachD_len (B : List Nd) (k : Nat) (o : List Bool) : (reachD B k o).length = o.length := by
  induction k generalizing o with
  | zero => rfl
  | succ k ih =>
    unfold reachD
    rw [ih]
    split
    · rw [markAll_len, markAll_len]
    · rfl
theorem reachD_is (B : List Nd) (hu : Under B) (root : Nat) (hroot : root < B.length) (k : Nat) (hk : k ≤ root + 1) (o : List Bool) (hl : o.length = root + 1)
    (h1 : ∀ i, o.getD i false = true → Reached B root i)
    (h2 : ∀ i, Reached B root i → o.getD i false = true ∨ ∃ (j : Nat) (nd : Nd), j < k ∧ Reached B root j ∧ B[j]? = some nd ∧ (i ∈ nd.1 ∨ i ∈ nd.2)) (i : Nat) :
    (reachD B k o).getD i false = true ↔ Reached B root i := by
  induction k generalizing o with
  | zero =>
    unfold reachD
    refine ⟨h1 i, fun h => ?_⟩
    rcases h2 i h with h3 | ⟨j, nd, hj, _⟩
    · exact h3
    · omega
  | succ k ih =>
    unfold reachD
    obtain ⟨nd, hnd⟩ := lt_get (l := B) (i := k) (by omega)
    have hg : B.getD k ([], []) = nd := by rw [List.getD_eq_getElem?_getD, hnd]; rfl
    rw [hg]
    -- a reached k is marked by now: what has it as an option stands behind it
    have hkm : Reached B root k → o.getD k false = true := fun hr => by
      rcases h2 k hr with h3 | ⟨j, n0, hj, _, hn0, hx⟩
      · exact h3
      · have := hu j n0 hn0 k hx
        omega
    split
    · rename_i hm
      have hrk := h1 k hm
      have b1 : ∀ x ∈ nd.1, x < o.length := fun x hx => by have := hu k nd hnd x (Or.inl hx); omega
      have b2 : ∀ x ∈ nd.2, x < (markAll o nd.1).length := fun x hx => by rw [markAll_len]; have := hu k nd hnd x (Or.inr hx); omega
      refine ih (by omega) _ (by rw [markAll_len, markAll_len]; exact hl) (fun j hj => ?_) (fun j hj => ?_)
      · rw [markAll_get _ _ _ b2, markAll_get _ _ _ b1] at hj
        simp only [Bool.or_eq_true, decide_eq_true_eq] at hj
        rcases hj with (hj | hj) | hj
        · exact h1 j hj
        · exact .opt hrk hnd (Or.inl hj)
        · exact .opt hrk hnd (Or.inr hj)
      · rw [markAll_get _ _ _ b2, markAll_get _ _ _ b1]
        simp only [Bool.or_eq_true, decide_eq_true_eq]
        rcases h2 j hj with h3 | ⟨m, n0, hm2, hr, hn0, hx⟩
        · exact Or.inl (Or.inl (Or.inl h3))
        · rcases Nat.lt_or_ge m k with h4 | h4
          · exact Or.inr ⟨m, n0, h4, hr, hn0, hx⟩
          · have : m = k := by omega
            subst this
            rw [hnd] at hn0
            injection hn0 with hn0
            subst hn0
            rcases hx with hx | hx
            · exact Or.inl (Or.inl (Or.inr hx))
            · exact Or.inl (Or.inr hx)
    · rename_i hm
      refine ih (by omega) o hl h1 (fun j hj => ?_)
      rcases h2 j hj with h3 | ⟨m, n0, hm2, hr, hn0, hx⟩
      · exact Or.inl h3
      · rcases Nat.lt_or_ge m k with h4 | h4
        · exact Or.inr ⟨m, n0, h4, hr, hn0, hx⟩
        · have : m = k := by omega
          subst this
          exact absurd (hkm hr) hm
theorem reachF_is (B : List Nd) (hu : Under B) (root : Nat) (hroot : root < B.length) (i : Nat) : (reachF B root).getD i false = true ↔ Reached B root i := by
  unfold reachF
  refine reachD_is B hu root hroot (root + 1) (Nat.le_refl _) _ (by simp) (fun j hj => ?_) (fun j hj => ?_) i
  · by_cases e : j = root
    · subst e; exact .root
    · exfalso
      rw [List.getD_eq_getElem?_getD, List.getElem?_set_ne (Ne.symm e)] at hj
      rcases Nat.lt_or_ge j (root + 1) with h | h
      · simp [h] at hj
      · simp [h] at hj
  · cases hj with
    | root => left; simp [List.getD_eq_getElem?_getD]
    | opt hr hk hx => exact Or.inr ⟨_, _, by have := hr.le hu; omega, hr, hk, hx⟩
/-- a node as it lies in memory -/
abbrev Nz := List Int × List Int
def upL (l : List Nat) : List Int := l.map (fun (n : Nat) => (n : Int))
def upN (nd : Nd) : Nz := (upL nd.1, upL nd.2)
def downL (l : List Int) : List Nat := l.map Int.toNat
def downN (nd : Nz) : Nd := (downL nd.1, downL nd.2)
/-- rising numbers within bounds -/
def RisesIn (l : List Int) (lo hi : Int) : Prop := l.Pairwise (· < ·) ∧ ∀ x ∈ l, lo ≤ x ∧ x ≤ hi
/-- within the limits -/
def FitsZ (f : List Nz) : Prop := 0 < f.length ∧ f.length ≤ 120 ∧ ∀ nd ∈ f, nd.1.length ≤ 24 ∧ nd.2.length ≤ 24
def StructZ (f : List Nz) : Prop := ∀ (k : Nat) (nd : Nz), f[k]? = some nd → RisesIn nd.1 0 ((k : Int) - 1) ∧ RisesIn nd.2 0 ((k : Int) - 1)
theorem upL_downL (l : List Int) (h : ∀ x ∈ l, 0 ≤ x) : upL (downL l) = l := by
  induction l with
  | nil => rfl
  | cons x l ih =>
    have hx := h x (List.mem_cons_self ..)
    have := ih fun y hy => h y (List.mem_cons_of_mem _ hy)
    unfold upL downL at this ⊢
    simp only [List.map_cons, this]
    congr 1
    omega
theorem downL_asc (l : List Int) (h : l.Pairwise (· < ·)) (h0 : ∀ x ∈ l, 0 ≤ x) : (downL l).Pairwise (· < ·) := by
  induction l with
  | nil => exact List.Pairwise.nil
  | cons x l ih =>
    rw [List.pairwise_cons] at h
    unfold downL at ih ⊢
    rw [List.map_cons, List.pairwise_cons]
    refine ⟨fun y hy => ?_, ih h.2 fun y hy => h0 y (List.mem_cons_of_mem _ hy)⟩
    rw [List.mem_map] at hy
    obtain ⟨z, hz, rfl⟩ := hy
    have := h.1 z hz
    have := h0 x (List.mem_cons_self ..)
    omega
/-- the nodes of structured memory -/
theorem StructZ.up {f : List Nz} (h : StructZ f) : (f.map downN).map upN = f ∧ Struct (f.map downN) := by
  have hg : ∀ nd ∈ f, upN (downN nd) = nd := fun nd hnd => by
    obtain ⟨k, hk⟩ := List.getElem?_of_mem hnd
    have := h k nd hk
    unfold upN downN
    rw [upL_downL _ fun x hx => (this.1.2 x hx).1, upL_downL _ fun x hx => (this.2.2 x hx).1]
  refine ⟨?_, fun k nd hk => ?_⟩
  · rw [List.map_map]
    exact (List.map_congr_left hg).trans (List.map_id f)
  · rw [List.getElem?_map] at hk
    cases hz : f[k]? with
    | none => rw [hz] at hk; cases hk
    | some z =>
      rw [hz] at hk
      injection hk with hk
      subst hk
      have := h k z hz
      refine ⟨downL_asc _ this.1.1 fun x hx => (this.1.2 x hx).1, downL_asc _ this.2.1 fun x hx => (this.2.2 x hx).1, fun x hx => ?_⟩
      unfold downN downL at hx
      simp only [List.mem_map] at hx
      rcases hx with ⟨y, hy, rfl⟩ | ⟨y, hy, rfl⟩
      · have := this.1.2 y hy; omega
      · have := this.2.2 y hy; omega
/-- A GOOD FORM, as the program asks it -/
def GoodZ (f : List Nz) : Prop := FitsZ f ∧ StructZ f ∧ RisingBy (f.map downN) (bOf (f.map downN)) ∧ Used (f.map downN)
/-- the form of a form's game, as the model makes it -/
def formM (f : List Nd) : List Nd := formOf f (fun k => (reachF (addF [] f).1 ((addF [] f).2.getD (f.length - 1) 0)).getD k false)
/-- ... as the model asks it -/
theorem goodZ_iff (f : List Nz) (h1 : FitsZ f) (h2 : StructZ f) : (formM (f.map downN)).map upN = f ↔ GoodZ f := by
  obtain ⟨hup, hs⟩ := h2.up
  have hl : 0 < (f.map downN).length := by simpa using h1.1
  have ha := addF_added [] book_nil (f.map downN) hs.under
  obtain ⟨nd, hnd⟩ := lt_get (l := f.map downN) (i := (f.map downN).length - 1) (by omega)
  have hroot := get_lt (ha.node _ nd hnd)
  have key := good_iff (f.map downN) hs hl _ (reachF_is (addF [] (f.map downN)).1 ha.book.struct.under _ hroot)
  have hinj : ∀ a b : List Nd, a.map upN = b.map upN → a = b := fun a b e => by
    have he : ∀ nd : Nd, downN (upN nd) = nd := fun nd => by
      unfold downN upN downL upL
      simp [List.map_map, Function.comp_def]
    have h3 := congrArg (List.map downN) e
    rw [List.map_map, List.map_map] at h3
    have h4 : (downN ∘ upN) = id := funext he
    rw [h4, List.map_id, List.map_id] at h3
    exact h3
  unfold GoodZ
  constructor
  · intro e
    refine ⟨h1, h2, key.1 (hinj _ _ ?_)⟩
    rw [hup]
    exact e
  · rintro ⟨_, _, h3⟩
    unfold formM
    rw [key.2 h3, hup]

end Go.Proofs.Ytabfdaofikccmaa
