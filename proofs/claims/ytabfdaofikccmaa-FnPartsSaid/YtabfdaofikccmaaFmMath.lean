/- Games as lists of nodes: sorted lists of options, birthdays, and that a game's nodes can be put into order in one way alone. -/
import Derived.Test.YtabfdaofikccmaaRows
namespace Go.Proofs.Ytabfdaofikccmaa
set_option linter.unusedVariables false
set_option linter.unusedSimpArgs false
/-- a node: its left and its right options -/
abbrev Nd := List Nat × List Nat
/-- a number put to its place, once -/
def putN : List Nat → Nat → List Nat
  | [], n => [n]
  | x :: l, n => if x < n then x :: putN l n else if x = n then x :: l else n :: x :: l
theorem putN_mem (l : List Nat) (n x : Nat) : x ∈ putN l n ↔ x = n ∨ x ∈ l := by
  induction l with
  | nil => simp [putN]
  | cons y l ih =>
    unfold putN
    split
    · simp only [List.mem_cons, ih]
      constructor <;> (intro h; rcases h with h | h | h <;> simp [h])
    · split
      · rename_i h
        subst h
        simp only [List.mem_cons]
        constructor
        · intro h; rcases h with h | h <;> simp [h]
        · intro h; rcases h with h | h | h <;> simp [h]
      · simp [List.mem_cons]
theorem putN_asc (l : List Nat) (n : Nat) (h : l.Pairwise (· < ·)) : (putN l n).Pairwise (· < ·) := by
  induction l with
  | nil => simp [putN]
  | cons y l ih =>
    rw [List.pairwise_cons] at h
    unfold putN
    split
    · rename_i hy
      rw [List.pairwise_cons]
      refine ⟨fun z hz => ?_, ih h.2⟩
      rcases (putN_mem l n z).1 hz with rfl | hz
      · exact hy
      · exact h.1 z hz
    · split
      · exact List.pairwise_cons.2 h
      · rename_i h1 h2
        rw [List.pairwise_cons]
        refine ⟨fun z hz => ?_, List.pairwise_cons.2 h⟩
        rcases List.mem_cons.1 hz with rfl | hz
        · omega
        · have := h.1 z hz
          omega
/-- numbers, rising, each once -/
def sortd (l : List Nat) : List Nat := l.foldl putN []
theorem foldl_put (l a : List Nat) (x : Nat) : x ∈ l.foldl putN a ↔ x ∈ l ∨ x ∈ a := by
  induction l generalizing a with
  | nil => simp
  | cons y l ih =>
    rw [List.foldl_cons, ih, putN_mem, List.mem_cons]
    constructor
    · intro h; rcases h with h | h | h <;> simp [h]
    · intro h; rcases h with (h | h) | h <;> simp [h]
theorem foldl_put_asc (l a : List Nat) (h : a.Pairwise (· < ·)) : (l.foldl putN a).Pairwise (· < ·) := by
  induction l generalizing a with
  | nil => exact h
  | cons y l ih => exact ih _ (putN_asc a y h)
theorem mem_sortd (l : List Nat) (x : Nat) : x ∈ sortd l ↔ x ∈ l := by
  unfold sortd; rw [foldl_put]; simp
theorem sortd_asc (l : List Nat) : (sortd l).Pairwise (· < ·) := foldl_put_asc l [] List.Pairwise.nil
theorem asc_ext : ∀ (a b : List Nat), a.Pairwise (· < ·) → b.Pairwise (· < ·) → (∀ x, x ∈ a ↔ x ∈ b) → a = b
  | [], b, _, _, h => by
    cases b with
    | nil => rfl
    | cons y b => exact absurd ((h y).2 (List.mem_cons_self ..)) (by simp)
  | x :: a, [], _, _, h => absurd ((h x).1 (List.mem_cons_self ..)) (by simp)
  | x :: a, y :: b, ha, hb, h => by
    rw [List.pairwise_cons] at ha hb
    have hxy : x = y := by
      rcases List.mem_cons.1 ((h x).1 (List.mem_cons_self ..)) with h1 | h1
      · exact h1
      · rcases List.mem_cons.1 ((h y).2 (List.mem_cons_self ..)) with h2 | h2
        · exact h2.symm
        · have := hb.1 x h1
          have := ha.1 y h2
          omega
    subst hxy
    congr 1
    refine asc_ext a b ha.2 hb.2 fun z => ?_
    have hz := h z
    simp only [List.mem_cons] at hz
    constructor
    · intro h1
      have := ha.1 z h1
      rcases hz.1 (Or.inr h1) with h2 | h2
      · omega
      · exact h2
    · intro h1
      have := hb.1 z h1
      rcases hz.2 (Or.inr h1) with h2 | h2
      · omega
      · exact h2
theorem sortd_id (l : List Nat) (h : l.Pairwise (· < ·)) : sortd l = l :=
  asc_ext _ _ (sortd_asc l) h (mem_sortd l)
theorem sortd_map_sortd (f : Nat → Nat) (l : List Nat) : sortd ((sortd l).map f) = sortd (l.map f) := by
  refine asc_ext _ _ (sortd_asc _) (sortd_asc _) fun x => ?_
  simp only [mem_sortd, List.mem_map]
theorem sortd_map_congr (f g : Nat → Nat) (l : List Nat) (h : ∀ x ∈ l, f x = g x) : sortd (l.map f) = sortd (l.map g) := by
  rw [List.map_congr_left h]
/-- which list of numbers is ahead -/
def ltL : List Nat → List Nat → Bool
  | _, [] => false
  | [], _ :: _ => true
  | x :: a, y :: b => if x = y then ltL a b else decide (x < y)
theorem ltL_irrefl (a : List Nat) : ltL a a = false := by
  induction a with
  | nil => rfl
  | cons x a ih => simp [ltL, ih]
theorem ltL_trans : ∀ (a b c : List Nat), ltL a b = true → ltL b c = true → ltL a c = true
  | a, b, [], _, h2 => by cases b <;> simp [ltL] at h2
  | a, [], z :: c, h1, _ => by cases a <;> simp [ltL] at h1
  | [], y :: b, z :: c, _, _ => rfl
  | x :: a, y :: b, z :: c, h1, h2 => by
    unfold ltL at h1 h2 ⊢
    by_cases hxy : x = y
    · subst hxy
      simp at h1
      by_cases hxz : x = z
      · subst hxz
        simp at h2 ⊢
        exact ltL_trans a b c h1 h2
      · rw [if_neg hxz] at h2 ⊢
        exact h2
    · rw [if_neg hxy] at h1
      by_cases hyz : y = z
      · subst hyz
        rw [if_neg hxy]
        exact h1
      · rw [if_neg hyz] at h2
        simp at h1 h2
        rw [if_neg (by omega)]
        simp; omega
theorem ltL_tri : ∀ (a b : List Nat), ltL a b = true ∨ a = b ∨ ltL b a = true
  | [], [] => Or.inr (Or.inl rfl)
  | [], y :: b => Or.inl rfl
  | x :: a, [] => Or.inr (Or.inr rfl)
  | x :: a, y :: b => by
    unfold ltL
    by_cases hxy : x = y
    · subst hxy
      simp
      rcases ltL_tri a b with h | h | h <;> simp [h]
    · rw [if_neg hxy, if_neg (fun h => hxy h.symm)]
      simp
      omega
/-- which node is ahead, of two that are born alike -/
def ltNd (a b : Nd) : Bool := if a.1 = b.1 then ltL a.2 b.2 else ltL a.1 b.1
theorem ltNd_irrefl (a : Nd) : ltNd a a = false := by simp [ltNd, ltL_irrefl]
theorem ltNd_tri (a b : Nd) : ltNd a b = true ∨ a = b ∨ ltNd b a = true := by
  obtain ⟨a1, a2⟩ := a
  obtain ⟨b1, b2⟩ := b
  unfold ltNd
  by_cases h : a1 = b1
  · subst h
    simp
    exact ltL_tri a2 b2
  · simp only [if_neg h, if_neg (fun h' : b1 = a1 => h h'.symm)]
    rcases ltL_tri a1 b1 with h1 | h1 | h1
    · exact Or.inl h1
    · exact absurd h1 h
    · exact Or.inr (Or.inr h1)
theorem ltNd_trans (a b c : Nd) (h1 : ltNd a b = true) (h2 : ltNd b c = true) : ltNd a c = true := by
  obtain ⟨a1, a2⟩ := a
  obtain ⟨b1, b2⟩ := b
  obtain ⟨c1, c2⟩ := c
  unfold ltNd at h1 h2 ⊢
  simp only at h1 h2 ⊢
  by_cases hab : a1 = b1
  · subst hab
    rw [if_pos rfl] at h1
    by_cases hbc : a1 = c1
    · subst hbc
      rw [if_pos rfl] at h2 ⊢
      exact ltL_trans _ _ _ h1 h2
    · rw [if_neg hbc] at h2 ⊢
      exact h2
  · rw [if_neg hab] at h1
    by_cases hbc : b1 = c1
    · subst hbc
      rw [if_neg hab]
      exact h1
    · rw [if_neg hbc] at h2
      have h3 := ltL_trans _ _ _ h1 h2
      rw [if_neg (fun h => by subst h; rw [ltL_irrefl] at h3; cases h3)]
      exact h3
theorem ltNd_asymm (a b : Nd) (h : ltNd a b = true) : ltNd b a = false := by
  cases h2 : ltNd b a with
  | false => rfl
  | true => rw [← ltNd_irrefl a]; exact (ltNd_trans a b a h h2).symm
/-- one more than the latest of some options -/
def lastOf (b : Nat → Nat) (nd : Nd) : Nat := (nd.1 ++ nd.2).foldl (fun m x => max m (b x + 1)) 0
theorem foldl_max_le (b : Nat → Nat) (l : List Nat) (m : Nat) : m ≤ l.foldl (fun m x => max m (b x + 1)) m := by
  induction l generalizing m with
  | nil => exact Nat.le_refl _
  | cons x l ih =>
    rw [List.foldl_cons]
    exact Nat.le_trans (Nat.le_max_left _ _) (ih _)
theorem foldl_max_mem (b : Nat → Nat) (l : List Nat) (m x : Nat) (h : x ∈ l) : b x < l.foldl (fun m x => max m (b x + 1)) m := by
  induction l generalizing m with
  | nil => cases h
  | cons y l ih =>
    rw [List.foldl_cons]
    rcases List.mem_cons.1 h with rfl | h
    · exact Nat.lt_of_lt_of_le (Nat.lt_of_lt_of_le (Nat.lt_succ_self _) (Nat.le_max_right _ _)) (foldl_max_le b l _)
    · exact ih _ h
theorem foldl_max_is (b : Nat → Nat) (l : List Nat) (m : Nat) : l.foldl (fun m x => max m (b x + 1)) m = m ∨ ∃ x ∈ l, l.foldl (fun m x => max m (b x + 1)) m = b x + 1 := by
  induction l generalizing m with
  | nil => exact Or.inl rfl
  | cons y l ih =>
    rw [List.foldl_cons]
    rcases ih (max m (b y + 1)) with h | ⟨x, hx, h⟩
    · rcases Nat.le_total m (b y + 1) with h1 | h1
      · exact Or.inr ⟨y, List.mem_cons_self .., by rw [h]; omega⟩
      · exact Or.inl (by rw [h]; omega)
    · exact Or.inr ⟨x, List.mem_cons_of_mem _ hx, h⟩
theorem lastOf_lt (b : Nat → Nat) (nd : Nd) (x : Nat) (h : x ∈ nd.1 ∨ x ∈ nd.2) : b x < lastOf b nd :=
  foldl_max_mem b _ 0 x (List.mem_append.2 h)
/-- what is later than all options is no earlier than their node, and where two nodes' options are born alike so are they -/
theorem lastOf_le (b : Nat → Nat) (nd : Nd) (n : Nat) (h : ∀ x, x ∈ nd.1 ∨ x ∈ nd.2 → b x < n) : lastOf b nd ≤ n := by
  rcases foldl_max_is b (nd.1 ++ nd.2) 0 with h1 | ⟨x, hx, h1⟩
  · unfold lastOf; omega
  · have := h x (List.mem_append.1 hx)
    unfold lastOf; omega
theorem lastOf_map (b c f : Nat → Nat) (nd : Nd) (h : ∀ x, x ∈ nd.1 ∨ x ∈ nd.2 → c (f x) = b x) :
    lastOf c (sortd (nd.1.map f), sortd (nd.2.map f)) = lastOf b nd := by
  refine Nat.le_antisymm (lastOf_le _ _ _ fun x hx => ?_) (lastOf_le _ _ _ fun x hx => ?_)
  · simp only [mem_sortd, List.mem_map] at hx
    rcases hx with ⟨y, hy, rfl⟩ | ⟨y, hy, rfl⟩
    · rw [h y (Or.inl hy)]; exact lastOf_lt b nd y (Or.inl hy)
    · rw [h y (Or.inr hy)]; exact lastOf_lt b nd y (Or.inr hy)
  · rw [← h x hx]
    refine lastOf_lt c _ (f x) ?_
    simp only [mem_sortd, List.mem_map]
    rcases hx with hx | hx
    · exact Or.inl ⟨x, hx, rfl⟩
    · exact Or.inr ⟨x, hx, rfl⟩
/-- each node's options stand ahead of it -/
def Under (P : List Nd) : Prop := ∀ (k : Nat) (nd : Nd), P[k]? = some nd → ∀ x, x ∈ nd.1 ∨ x ∈ nd.2 → x < k
/-- each node's options are rising, and stand ahead of it -/
def Struct (P : List Nd) : Prop := ∀ (k : Nat) (nd : Nd), P[k]? = some nd → nd.1.Pairwise (· < ·) ∧ nd.2.Pairwise (· < ·) ∧ ∀ x, x ∈ nd.1 ∨ x ∈ nd.2 → x < k
theorem Struct.under {P : List Nd} (h : Struct P) : Under P := fun k nd hk => (h k nd hk).2.2
/-- birthdays of nodes -/
def Births (P : List Nd) (b : Nat → Nat) : Prop := ∀ (k : Nat) (nd : Nd), P[k]? = some nd → b k = lastOf b nd
/-- closed under options -/
def Shut (P : List Nd) (need : Nat → Prop) : Prop := ∀ (k : Nat) (nd : Nd), P[k]? = some nd → need k → ∀ x, x ∈ nd.1 ∨ x ∈ nd.2 → need x
/-- what a node becomes -/
def movd (f : Nat → Nat) (nd : Nd) : Nd := (sortd (nd.1.map f), sortd (nd.2.map f))
theorem movd_movd (f g : Nat → Nat) (nd : Nd) : movd g (movd f nd) = movd (fun x => g (f x)) nd := by
  unfold movd
  simp only [sortd_map_sortd, List.map_map]
  rfl
theorem movd_congr (f g : Nat → Nat) (nd : Nd) (h : ∀ x, x ∈ nd.1 ∨ x ∈ nd.2 → f x = g x) : movd f nd = movd g nd := by
  unfold movd
  rw [sortd_map_congr f g _ fun x hx => h x (Or.inl hx), sortd_map_congr f g _ fun x hx => h x (Or.inr hx)]
/-- nodes that are needed, put into order: each once, the earlier born ahead -/
structure Canon (P : List Nd) (b : Nat → Nat) (need : Nat → Prop) (out : List Nd) (pl : Nat → Nat) : Prop where
  node : ∀ (k : Nat) (nd : Nd), P[k]? = some nd → need k → out[pl k]? = some (movd pl nd)
  from' : ∀ i, i < out.length → ∃ k, k < P.length ∧ need k ∧ pl k = i
  born : ∀ k j, k < P.length → j < P.length → need k → need j → b k < b j → pl k < pl j
  ahead : ∀ k j x y, k < P.length → j < P.length → need k → need j → b k = b j → out[pl k]? = some x → out[pl j]? = some y → ltNd x y = true → pl k < pl j
  once : ∀ k j, k < P.length → j < P.length → need k → need j → out[pl k]? = out[pl j]? → pl k = pl j
theorem get_lt {α : Type} {l : List α} {i : Nat} {x : α} (h : l[i]? = some x) : i < l.length := by
  rcases Nat.lt_or_ge i l.length with h1 | h1
  · exact h1
  · rw [List.getElem?_eq_none h1] at h; cases h
theorem lt_get {α : Type} {l : List α} {i : Nat} (h : i < l.length) : ∃ x, l[i]? = some x := ⟨_, List.getElem?_eq_getElem h⟩
theorem Canon.placed {P : List Nd} {b : Nat → Nat} {need : Nat → Prop} {out : List Nd} {pl : Nat → Nat} (h : Canon P b need out pl) {k : Nat} (hk : k < P.length) (hn : need k) : pl k < out.length := by
  obtain ⟨nd, hnd⟩ := lt_get hk
  exact get_lt (h.node k nd hnd hn)
/-- one half of the step: places below agree, so a node's other place is no earlier -/
theorem Canon.half {P : List Nd} {b : Nat → Nat} {need : Nat → Prop} {out out' : List Nd} {pl pl' : Nat → Nat} (hb : Births P b) (hs : Shut P need) (hu : Under P)
    (h : Canon P b need out pl) (h' : Canon P b need out' pl') (m : Nat)
    (ih : ∀ i, i < m → ∀ k, k < P.length → need k → (pl k = i ↔ pl' k = i)) (k : Nat) (hk : k < P.length) (hn : need k) (hm : pl k = m) : m ≤ pl' k := by
  rcases Nat.lt_or_ge (pl' k) m with hlt | hge
  · have := (ih (pl' k) hlt k hk hn).2 rfl
    omega
  · exact hge
theorem Canon.same {P : List Nd} {b : Nat → Nat} {need : Nat → Prop} {out out' : List Nd} {pl pl' : Nat → Nat} (hb : Births P b) (hs : Shut P need) (hu : Under P)
    (h : Canon P b need out pl) (h' : Canon P b need out' pl') (m : Nat)
    (ih : ∀ i, i < m → ∀ k, k < P.length → need k → (pl k = i ↔ pl' k = i)) (k : Nat) (hk : k < P.length) (hn : need k) (hm : pl k = m) :
    out[pl k]? = out'[pl' k]? := by
  obtain ⟨nd, hnd⟩ := lt_get hk
  rw [h.node k nd hnd hn, h'.node k nd hnd hn]
  congr 1
  refine movd_congr _ _ _ fun x hx => ?_
  have hxk := hu k nd hnd x hx
  have hxl : x < P.length := by omega
  have hxn := hs k nd hnd hn x hx
  have hbx : b x < b k := by rw [hb k nd hnd]; exact lastOf_lt b nd x hx
  have hlt := h.born x k hxl hk hxn hn hbx
  exact ((ih (pl x) (by omega) x hxl hxn).1 rfl).symm
/-- where the same nodes stand at two places that agree below, the orders agree -/
theorem Canon.step {P : List Nd} {b : Nat → Nat} {need : Nat → Prop} {out out' : List Nd} {pl pl' : Nat → Nat} (hb : Births P b) (hs : Shut P need) (hu : Under P)
    (h : Canon P b need out pl) (h' : Canon P b need out' pl') (m : Nat)
    (ih : ∀ i, i < m → ∀ k, k < P.length → need k → (pl k = i ↔ pl' k = i)) (k : Nat) (hk : k < P.length) (hn : need k) (hm : pl k = m) : pl' k = m := by
  have h1 := Canon.half hb hs hu h h' m ih k hk hn hm
  rcases Nat.lt_or_ge m (pl' k) with hlt | hge
  · exfalso
    have hplk := h'.placed hk hn
    obtain ⟨j, hj, hjn, hjm⟩ := h'.from' m (by omega)
    have ih' : ∀ i, i < m → ∀ k, k < P.length → need k → (pl' k = i ↔ pl k = i) := fun i hi k hk hn => (ih i hi k hk hn).symm
    have h2 := Canon.half hb hs hu h' h m ih' j hj hjn hjm
    have ek := Canon.same hb hs hu h h' m ih k hk hn hm
    have ej := Canon.same hb hs hu h' h m ih' j hj hjn hjm
    obtain ⟨x, hx⟩ := lt_get (h'.placed hj hjn)
    obtain ⟨y, hy⟩ := lt_get hplk
    -- j is ahead of k at the other places
    have hbjk : ¬ b k < b j := fun hc => by have := h'.born k j hk hj hn hjn hc; omega
    rcases Nat.lt_or_ge (b j) (b k) with hc | hc
    · have := h.born j k hj hk hjn hn hc
      omega
    · have heq : b j = b k := by omega
      rcases ltNd_tri x y with ht | ht | ht
      · have := h.ahead j k x y hj hk hjn hn heq (ej.symm.trans hx) (ek.trans hy) ht
        omega
      · have := h'.once j k hj hk hjn hn (by rw [hx, hy, ht])
        omega
      · have := h'.ahead k j y x hk hj hn hjn heq.symm hy hx ht
        omega
  · omega
theorem Canon.places {P : List Nd} {b : Nat → Nat} {need : Nat → Prop} {out out' : List Nd} {pl pl' : Nat → Nat} (hb : Births P b) (hs : Shut P need) (hu : Under P)
    (h : Canon P b need out pl) (h' : Canon P b need out' pl') (m : Nat) : ∀ k, k < P.length → need k → (pl k = m ↔ pl' k = m) := by
  induction m using Nat.strongRecOn with
  | ind m ih =>
    intro k hk hn
    exact ⟨Canon.step hb hs hu h h' m ih k hk hn, Canon.step hb hs hu h' h m (fun i hi k hk hn => (ih i hi k hk hn).symm) k hk hn⟩
/-- ONE ORDER ALONE -/
theorem Canon.unique {P : List Nd} {b : Nat → Nat} {need : Nat → Prop} {out out' : List Nd} {pl pl' : Nat → Nat} (hb : Births P b) (hs : Shut P need) (hu : Under P)
    (h : Canon P b need out pl) (h' : Canon P b need out' pl') : out = out' ∧ ∀ k, k < P.length → need k → pl k = pl' k := by
  have hp : ∀ k, k < P.length → need k → pl k = pl' k := fun k hk hn => ((Canon.places hb hs hu h h' (pl k) k hk hn).1 rfl).symm
  refine ⟨?_, hp⟩
  apply List.ext_getElem?
  intro i
  have key : ∀ {o o' : List Nd} {p p' : Nat → Nat}, Canon P b need o p → Canon P b need o' p' → (∀ k, k < P.length → need k → p k = p' k) → i < o.length → o[i]? = o'[i]? := by
    intro o o' p p' g g' e hi
    obtain ⟨k, hk, hn, rfl⟩ := g.from' i hi
    obtain ⟨nd, hnd⟩ := lt_get hk
    rw [g.node k nd hnd hn, e k hk hn, g'.node k nd hnd hn]
    congr 1
    exact movd_congr _ _ _ fun x hx => e x (by have := hu k nd hnd x hx; omega) (hs k nd hnd hn x hx)
  rcases Nat.lt_or_ge i out.length with hi | hi
  · exact key h h' hp hi
  · rcases Nat.lt_or_ge i out'.length with hi' | hi'
    · exact (key h' h (fun k hk hn => (hp k hk hn).symm) hi').symm
    · rw [List.getElem?_eq_none hi, List.getElem?_eq_none hi']
/-- a game's nodes: the earlier born ahead, of such as are born alike the lesser -/
def Rising (P : List Nd) (b : Nat → Nat) : Prop := ∀ k j x y, P[k]? = some x → P[j]? = some y → k < j → b k < b j ∨ (b k = b j ∧ ltNd x y = true)
/-- what is told node by node -/
def RisingBy (P : List Nd) (b : Nat → Nat) : Prop := ∀ k x y, P[k]? = some x → P[k + 1]? = some y → b k < b (k + 1) ∨ (b k = b (k + 1) ∧ ltNd x y = true)
theorem RisingBy.rising {P : List Nd} {b : Nat → Nat} (h : RisingBy P b) : Rising P b := by
  intro k j x y hx hy hkj
  obtain ⟨d, rfl⟩ : ∃ d, j = k + 1 + d := ⟨j - (k + 1), by omega⟩
  clear hkj
  induction d generalizing y with
  | zero => exact h k x y hx hy
  | succ d ih =>
    obtain ⟨z, hz⟩ := lt_get (l := P) (i := k + 1 + d) (by have := get_lt hy; omega)
    rcases ih z hz with h1 | ⟨h1, h2⟩ <;> rcases h (k + 1 + d) z y hz hy with h3 | ⟨h3, h4⟩
    · left; show b k < b (k + 1 + d + 1); omega
    · left; show b k < b (k + 1 + d + 1); omega
    · left; show b k < b (k + 1 + d + 1); omega
    · right
      exact ⟨by show b k = b (k + 1 + d + 1); omega, ltNd_trans x z y h2 h4⟩
theorem movd_id {P : List Nd} (h : Struct P) {k : Nat} {nd : Nd} (hk : P[k]? = some nd) : movd (fun x => x) nd = nd := by
  have := h k nd hk
  unfold movd
  simp only [List.map_id']
  rw [sortd_id _ this.1, sortd_id _ this.2.1]
/-- nodes that are in order are so -/
theorem canon_of_rising {P : List Nd} {b : Nat → Nat} (hs : Struct P) (hb : Births P b) (hr : Rising P b) : Canon P b (fun _ => True) P (fun x => x) where
  node := fun k nd hk _ => by rw [movd_id hs hk]; exact hk
  from' := fun i hi => ⟨i, hi, trivial, rfl⟩
  born := fun k j hk hj _ _ hlt => by
    rcases Nat.lt_trichotomy k j with h | h | h
    · exact h
    · subst h; omega
    · obtain ⟨x, hx⟩ := lt_get hk
      obtain ⟨y, hy⟩ := lt_get hj
      rcases hr j k y x hy hx h with h1 | ⟨h1, _⟩ <;> omega
  ahead := fun k j x y hk hj _ _ he hx hy hlt => by
    rcases Nat.lt_trichotomy k j with h | h | h
    · exact h
    · subst h
      rw [hx] at hy
      injection hy with hy
      subst hy
      rw [ltNd_irrefl] at hlt; cases hlt
    · rcases hr j k y x hy hx h with h1 | ⟨_, h1⟩
      · omega
      · rw [ltNd_asymm x y hlt] at h1; cases h1
  once := fun k j hk hj _ _ he => by
    obtain ⟨x, hx⟩ := lt_get hk
    obtain ⟨y, hy⟩ := lt_get hj
    have hxy : x = y := by
      have e : P[k]? = P[j]? := he
      rw [hx, hy] at e; injection e
    subst hxy
    have hbk := hb k x hx
    have hbj := hb j x hy
    rcases Nat.lt_trichotomy k j with h | h | h
    · rcases hr k j x x hx hy h with h1 | ⟨_, h1⟩
      · omega
      · rw [ltNd_irrefl] at h1; cases h1
    · exact h
    · rcases hr j k x x hy hx h with h1 | ⟨_, h1⟩
      · omega
      · rw [ltNd_irrefl] at h1; cases h1
/-- birthdays behind the order are those ahead of it -/
theorem Canon.births {P : List Nd} {b c : Nat → Nat} {need : Nat → Prop} {out : List Nd} {pl : Nat → Nat} (hb : Births P b) (hs : Shut P need) (hu : Under P)
    (h : Canon P b need out pl) (hc : Births out c) : ∀ k, k < P.length → need k → c (pl k) = b k := by
  intro k
  induction k using Nat.strongRecOn with
  | ind k ih =>
    intro hk hn
    obtain ⟨nd, hnd⟩ := lt_get hk
    rw [hc _ _ (h.node k nd hnd hn), hb k nd hnd]
    unfold movd
    refine lastOf_map b c pl nd fun x hx => ?_
    have hx' := hu k nd hnd x hx
    exact ih x hx' (by omega) (hs k nd hnd hn x hx)
/-- nodes in order are structured -/
theorem Canon.struct {P : List Nd} {b : Nat → Nat} {need : Nat → Prop} {out : List Nd} {pl : Nat → Nat} (hb : Births P b) (hs : Shut P need) (hu : Under P)
    (h : Canon P b need out pl) : Struct out := by
  intro i nd hi
  obtain ⟨k, hk, hn, rfl⟩ := h.from' i (get_lt hi)
  obtain ⟨n0, hnd⟩ := lt_get hk
  have e := h.node k n0 hnd hn
  rw [hi] at e
  injection e with e
  subst e
  refine ⟨sortd_asc _, sortd_asc _, fun x hx => ?_⟩
  unfold movd at hx
  simp only [mem_sortd, List.mem_map] at hx
  have key : ∀ y, y ∈ n0.1 ∨ y ∈ n0.2 → pl y < pl k := fun y hy => by
    have hy' := hu k n0 hnd y hy
    refine h.born y k (by omega) hk (hs k n0 hnd hn y hy) hn ?_
    rw [hb k n0 hnd]
    exact lastOf_lt b n0 y hy
  rcases hx with ⟨y, hy, rfl⟩ | ⟨y, hy, rfl⟩
  · exact key y (Or.inl hy)
  · exact key y (Or.inr hy)
theorem Canon.rising {P : List Nd} {b c : Nat → Nat} {need : Nat → Prop} {out : List Nd} {pl : Nat → Nat} (hb : Births P b) (hs : Shut P need) (hu : Under P)
    (h : Canon P b need out pl) (hc : Births out c) : Rising out c := by
  intro i j x y hx hy hij
  obtain ⟨k, hk, hn, rfl⟩ := h.from' i (get_lt hx)
  obtain ⟨m, hm, hmn, rfl⟩ := h.from' j (get_lt hy)
  rw [Canon.births hb hs hu h hc k hk hn, Canon.births hb hs hu h hc m hm hmn]
  rcases Nat.lt_trichotomy (b k) (b m) with h1 | h1 | h1
  · exact Or.inl h1
  · refine Or.inr ⟨h1, ?_⟩
    rcases ltNd_tri x y with h2 | h2 | h2
    · exact h2
    · subst h2
      have := h.once k m hk hm hn hmn (by rw [hx, hy])
      omega
    · have := h.ahead m k y x hm hk hmn hn h1.symm hy hx h2
      omega
  · have := h.born m k hm hk hmn hn h1
    omega

end Go.Proofs.Ytabfdaofikccmaa
