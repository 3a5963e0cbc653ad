/- The part of a good form at a place: what the program makes is what the model's book makes. -/
import Derived.Test.YtabfdaofikccmaaFmGood
namespace Go.Proofs.Ytabfdaofikccmaa

theorem ltL_map (p : Nat → Nat) : ∀ (a b : List Nat), (∀ x y, x ∈ a ++ b → y ∈ a ++ b → x < y → p x < p y) → ltL (a.map p) (b.map p) = ltL a b
  | [], [], _ => rfl
  | [], _ :: _, _ => rfl
  | _ :: _, [], _ => rfl
  | x :: a, y :: b, h => by
    have ih := ltL_map p a b (fun u v hu hv => h u v (by simp at hu ⊢; rcases hu with hu | hu <;> simp [hu]) (by simp at hv ⊢; rcases hv with hv | hv <;> simp [hv]))
    have hx : x ∈ (x :: a) ++ (y :: b) := by simp
    have hy : y ∈ (x :: a) ++ (y :: b) := by simp
    simp only [List.map_cons, ltL]
    rcases Nat.lt_trichotomy x y with hlt | rfl | hlt
    · have := h x y hx hy hlt
      rw [if_neg (by omega), if_neg (by omega)]
      simp [hlt, this]
    · simp [ih]
    · have := h y x hy hx hlt
      rw [if_neg (by omega), if_neg (by omega), decide_eq_false (by omega), decide_eq_false (by omega)]
theorem sortd_map (p : Nat → Nat) (l : List Nat) (ha : l.Pairwise (· < ·)) (h : ∀ x y, x ∈ l → y ∈ l → x < y → p x < p y) : sortd (l.map p) = l.map p := by
  refine sortd_id _ ?_
  rw [List.pairwise_map]
  exact List.Pairwise.imp_of_mem (fun hx hy hlt => h _ _ hx hy hlt) ha
theorem map_inj_on (p : Nat → Nat) : ∀ (a b : List Nat), (∀ x y, x ∈ a ++ b → y ∈ a ++ b → p x = p y → x = y) → a.map p = b.map p → a = b
  | [], [], _, _ => rfl
  | [], _ :: _, _, e => by simp at e
  | _ :: _, [], _, e => by simp at e
  | x :: a, y :: b, h, e => by
    simp only [List.map_cons, List.cons.injEq] at e
    rw [h x y (by simp) (by simp) e.1, map_inj_on p a b (fun u v hu hv => h u v (by simp at hu ⊢; rcases hu with hu | hu <;> simp [hu]) (by simp at hv ⊢; rcases hv with hv | hv <;> simp [hv])) e.2]
/-- a renaming that keeps the order keeps the order of nodes -/
theorem ltNd_movd {p : Nat → Nat} {need : Nat → Prop} {a b : Nd} (hm : ∀ x y, need x → need y → x < y → p x < p y) (sa : a.1.Pairwise (· < ·) ∧ a.2.Pairwise (· < ·)) (sb : b.1.Pairwise (· < ·) ∧ b.2.Pairwise (· < ·))
    (ha : ∀ x, x ∈ a.1 ∨ x ∈ a.2 → need x) (hb : ∀ x, x ∈ b.1 ∨ x ∈ b.2 → need x) : ltNd (movd p a) (movd p b) = ltNd a b := by
  have hinj : ∀ x y, need x → need y → p x = p y → x = y := fun x y hx hy e => by
    rcases Nat.lt_trichotomy x y with h | h | h
    · have := hm x y hx hy h; omega
    · exact h
    · have := hm y x hy hx h; omega
  have a1 := sortd_map p a.1 sa.1 (fun x y hx hy => hm x y (ha x (Or.inl hx)) (ha y (Or.inl hy)))
  have a2 := sortd_map p a.2 sa.2 (fun x y hx hy => hm x y (ha x (Or.inr hx)) (ha y (Or.inr hy)))
  have b1 := sortd_map p b.1 sb.1 (fun x y hx hy => hm x y (hb x (Or.inl hx)) (hb y (Or.inl hy)))
  have b2 := sortd_map p b.2 sb.2 (fun x y hx hy => hm x y (hb x (Or.inr hx)) (hb y (Or.inr hy)))
  have n1 : ∀ x, x ∈ a.1 ++ b.1 → need x := fun x hx => (List.mem_append.1 hx).elim (fun h => ha x (Or.inl h)) (fun h => hb x (Or.inl h))
  have n2 : ∀ x, x ∈ a.2 ++ b.2 → need x := fun x hx => (List.mem_append.1 hx).elim (fun h => ha x (Or.inr h)) (fun h => hb x (Or.inr h))
  have l1 := ltL_map p a.1 b.1 (fun x y hx hy => hm x y (n1 x hx) (n1 y hy))
  have l2 := ltL_map p a.2 b.2 (fun x y hx hy => hm x y (n2 x hx) (n2 y hy))
  unfold ltNd movd
  simp only [a1, a2, b1, b2, l1, l2]
  by_cases e : a.1 = b.1
  · rw [e]; simp
  · rw [if_neg e, if_neg (fun e2 => e (map_inj_on p _ _ (fun x y hx hy => hinj x y (n1 x hx) (n1 y hy)) e2))]
theorem movd_mono_inj {p : Nat → Nat} {need : Nat → Prop} {a b : Nd} (hm : ∀ x y, need x → need y → x < y → p x < p y) (sa : a.1.Pairwise (· < ·) ∧ a.2.Pairwise (· < ·)) (sb : b.1.Pairwise (· < ·) ∧ b.2.Pairwise (· < ·))
    (ha : ∀ x, x ∈ a.1 ∨ x ∈ a.2 → need x) (hb : ∀ x, x ∈ b.1 ∨ x ∈ b.2 → need x) (e : movd p a = movd p b) : a = b := by
  have h1 := ltNd_movd hm sa sb ha hb
  have h2 := ltNd_movd hm sb sa hb ha
  rw [e, ltNd_irrefl] at h1 h2
  rcases ltNd_tri a b with h | h | h
  · rw [h] at h1; cases h1
  · exact h
  · rw [h] at h2; cases h2
/-- what the program makes of a form: the nodes that are needed, moved up -/
def partN (f : List Nd) (need : Nat → Bool) (top : Nat) : Nat → List Nat × List Nd
  | 0 => (List.replicate (top + 1) 0, [])
  | i + 1 =>
    let s := partN f need top i
    if need i then (s.1.set i s.2.length, s.2 ++ [movd (fun x => s.1.getD x 0) (f.getD i ([], []))]) else s
structure PartIs (f : List Nd) (need : Nat → Bool) (top n : Nat) (s : List Nat × List Nd) : Prop where
  alen : s.1.length = top + 1
  node : ∀ k nd, k < n → f[k]? = some nd → need k = true → s.2[s.1.getD k 0]? = some (movd (fun x => s.1.getD x 0) nd)
  from' : ∀ i, i < s.2.length → ∃ k, k < n ∧ k < f.length ∧ need k = true ∧ s.1.getD k 0 = i
  mono : ∀ k j, k < j → j < n → need k = true → need j = true → s.1.getD k 0 < s.1.getD j 0
  lt : ∀ k, k < n → need k = true → s.1.getD k 0 < s.2.length
theorem getD_set_same (l : List Nat) (i v : Nat) (h : i < l.length) : (l.set i v).getD i 0 = v := by
  rw [List.getD_eq_getElem?_getD, List.getElem?_set_self h]; rfl
theorem getD_set_other (l : List Nat) (i k v : Nat) (h : i ≠ k) : (l.set i v).getD k 0 = l.getD k 0 := by
  rw [List.getD_eq_getElem?_getD, List.getElem?_set_ne h, ← List.getD_eq_getElem?_getD]
theorem part_is (f : List Nd) (hu : Under f) (need : Nat → Bool) (hs : Shut f (fun k => need k = true)) (top : Nat) (htop : top < f.length) : ∀ n, n ≤ top + 1 → PartIs f need top n (partN f need top n)
  | 0, _ => ⟨by simp [partN], fun k nd hk => by omega, fun i hi => by simp [partN] at hi, fun k j _ hj => by omega, fun k hk => by omega⟩
  | n + 1, hn => by
    have ih := part_is f hu need hs top htop n (by omega)
    unfold partN
    generalize partN f need top n = s at ih
    obtain ⟨nd, hnd⟩ := lt_get (l := f) (i := n) (by omega)
    have hgd : f.getD n ([], []) = nd := by rw [List.getD_eq_getElem?_getD, hnd]; rfl
    simp only [hgd]
    cases hne : need n with
    | false =>
      simp only [Bool.false_eq_true, if_false]
      refine ⟨ih.alen, fun k n0 hk h1 h2 => ih.node k n0 ?_ h1 h2, fun i hi => ?_, fun k j h1 h2 h3 h4 => ih.mono k j h1 ?_ h3 h4, fun k hk h1 => ih.lt k ?_ h1⟩
      · rcases Nat.lt_or_ge k n with h | h
        · exact h
        · have : k = n := by omega
          subst this; rw [hne] at h2; cases h2
      · obtain ⟨k, h1, h2⟩ := ih.from' i hi
        exact ⟨k, by omega, h2⟩
      · rcases Nat.lt_or_ge j n with h | h
        · exact h
        · have : j = n := by omega
          subst this; rw [hne] at h4; cases h4
      · rcases Nat.lt_or_ge k n with h | h
        · exact h
        · have : k = n := by omega
          subst this; rw [hne] at h1; cases h1
    | true =>
      simp only [if_true]
      have hal := ih.alen
      have hsame := getD_set_same s.1 n s.2.length (by omega)
      have hoth : ∀ k, k < n → (s.1.set n s.2.length).getD k 0 = s.1.getD k 0 := fun k hk => getD_set_other _ _ _ _ (by omega)
      refine ⟨by simp [hal], fun k n0 hk h1 h2 => ?_, fun i hi => ?_, fun k j h1 h2 h3 h4 => ?_, fun k hk h1 => ?_⟩
      · have hmv : movd (fun x => (s.1.set n s.2.length).getD x 0) n0 = movd (fun x => s.1.getD x 0) n0 := movd_congr _ _ _ fun x hx => hoth x (by have := hu k n0 h1 x hx; omega)
        rw [hmv]
        rcases Nat.lt_or_ge k n with h | h
        · rw [hoth k h, List.getElem?_append_left (ih.lt k h h2)]
          exact ih.node k n0 h h1 h2
        · have : k = n := by omega
          subst this
          rw [hnd] at h1
          injection h1 with h1
          rw [hsame, h1]
          simp
      · rw [List.length_append, List.length_singleton] at hi
        rcases Nat.lt_or_ge i s.2.length with h | h
        · obtain ⟨k, h1, h2, h3, h4⟩ := ih.from' i h
          exact ⟨k, by omega, h2, h3, by rw [hoth k h1]; exact h4⟩
        · exact ⟨n, by omega, by omega, hne, by rw [hsame]; omega⟩
      · rcases Nat.lt_or_ge j n with h | h
        · rw [hoth k (by omega), hoth j h]
          exact ih.mono k j h1 h h3 h4
        · have : j = n := by omega
          subst this
          rw [hsame, hoth k (by omega)]
          exact ih.lt k (by omega) h3
      · rw [List.length_append, List.length_singleton]
        rcases Nat.lt_or_ge k n with h | h
        · rw [hoth k h]; have := ih.lt k h h1; omega
        · have : k = n := by omega
          subst this
          rw [hsame]; omega
theorem part_canon (f : List Nd) (hf : Struct f) (hr : Rising f (bOf f)) (need : Nat → Bool) (hs : Shut f (fun k => need k = true)) (top : Nat) (htop : top < f.length) (hle : ∀ k, need k = true → k ≤ top) :
    Canon f (bOf f) (fun k => need k = true) (partN f need top (top + 1)).2 (fun k => (partN f need top (top + 1)).1.getD k 0) := by
  have hu := hf.under
  have hb := births_bOf f hu
  have h := part_is f hu need hs top htop (top + 1) (Nat.le_refl _)
  generalize partN f need top (top + 1) = s at h
  have hmono : ∀ x y, need x = true → need y = true → x < y → s.1.getD x 0 < s.1.getD y 0 := fun x y hx hy hlt => h.mono x y hlt (by have := hle y hy; omega) hx hy
  have hst : ∀ (k : Nat) (nd : Nd), f[k]? = some nd → nd.1.Pairwise (· < ·) ∧ nd.2.Pairwise (· < ·) := fun k nd hk => ⟨(hf k nd hk).1, (hf k nd hk).2.1⟩
  have key : ∀ k j, k < f.length → j < f.length → need k = true → need j = true → s.2[s.1.getD k 0]? = s.2[s.1.getD j 0]? → k = j := fun k j hk hj nk nj e => by
    obtain ⟨x, hx⟩ := lt_get hk
    obtain ⟨y, hy⟩ := lt_get hj
    rw [h.node k x (by have := hle k nk; omega) hx nk, h.node j y (by have := hle j nj; omega) hy nj] at e
    injection e with e
    have hxy := movd_mono_inj (need := fun k => need k = true) hmono (hst k x hx) (hst j y hy) (hs k x hx nk) (hs j y hy nj) e
    subst hxy
    have b1 := hb k x hx
    have b2 := hb j x hy
    rcases Nat.lt_trichotomy k j with hlt | heq | hlt
    · rcases hr k j x x hx hy hlt with h1 | h1
      · omega
      · rw [ltNd_irrefl] at h1; cases h1.2
    · exact heq
    · rcases hr j k x x hy hx hlt with h1 | h1
      · omega
      · rw [ltNd_irrefl] at h1; cases h1.2
  refine ⟨fun k nd hk nk => h.node k nd (by have := hle k nk; omega) hk nk, fun i hi => ?_, fun k j hk hj nk nj hlt => ?_, fun k j x y hk hj nk nj e hx hy hlt => ?_, fun k j hk hj nk nj e => by rw [key k j hk hj nk nj e]⟩
  · obtain ⟨k, _, h2, h3, h4⟩ := h.from' i hi
    exact ⟨k, h2, h3, h4⟩
  · obtain ⟨x, hx⟩ := lt_get hk
    obtain ⟨y, hy⟩ := lt_get hj
    rcases Nat.lt_trichotomy k j with h1 | rfl | h1
    · exact hmono k j nk nj h1
    · omega
    · have := hr j k y x hy hx h1
      omega
  · obtain ⟨xk, hxk⟩ := lt_get hk
    obtain ⟨yj, hyj⟩ := lt_get hj
    rw [h.node k xk (by have := hle k nk; omega) hxk nk] at hx
    rw [h.node j yj (by have := hle j nj; omega) hyj nj] at hy
    injection hx with hx
    injection hy with hy
    subst hx hy
    rcases Nat.lt_trichotomy k j with h1 | rfl | h1
    · exact hmono k j nk nj h1
    · rw [hxk] at hyj
      injection hyj with hyj
      subst hyj
      rw [ltNd_irrefl] at hlt; cases hlt
    · rcases hr j k yj xk hyj hxk h1 with h2 | h2
      · omega
      · have := ltNd_movd (need := fun k => need k = true) hmono (hst j yj hyj) (hst k xk hxk) (hs j yj hyj nj) (hs k xk hxk nk)
        rw [h2.2] at this
        rw [ltNd_asymm _ _ hlt] at this
        cases this
theorem rising_book {f : List Nd} (hf : Struct f) (hr : Rising f (bOf f)) : Book f := by
  have hb := births_bOf f hf.under
  refine ⟨hf, ?_⟩
  unfold List.Nodup
  rw [List.pairwise_iff_getElem]
  intro i j hi hj hij e
  have h1 : f[i]? = some f[i] := List.getElem?_eq_getElem hi
  have h2 : f[j]? = some f[i] := by rw [e]; exact List.getElem?_eq_getElem hj
  have b1 := hb i _ h1
  have b2 := hb j _ h2
  rcases hr i j _ _ h1 h2 hij with h3 | h3
  · omega
  · rw [ltNd_irrefl] at h3; cases h3.2
/-- in a form whose nodes all differ no two places are one in the book -/
theorem added_inj {f C : List Nd} {l : List Nat} (hB : Book f) (ha : Added [] f C l) : ∀ n, ∀ k j, k < n → j < n → k < f.length → j < f.length → l.getD k 0 = l.getD j 0 → k = j
  | 0, k, j, hk, _, _, _, _ => by omega
  | n + 1, k, j, hk, hj, hkl, hjl, e => by
    have ih := added_inj hB ha n
    obtain ⟨x, hx⟩ := lt_get hkl
    obtain ⟨y, hy⟩ := lt_get hjl
    have h1 := ha.node k x hx
    have h2 := ha.node j y hy
    rw [e, h2] at h1
    injection h1 with h1
    have hu := hB.struct.under
    exact movd_inj hB (need := fun z => z < n) (pl := fun z => l.getD z 0) (fun a b ha hb na nb => ih a b na nb ha hb) hx hy (fun z hz => by have := hu k x hx z hz; omega) (fun z hz => by have := hu j y hy z hz; omega) h1.symm
theorem added_back {f C : List Nd} {l : List Nat} (hu : Under f) (ha : Added [] f C l) (r : Nat) (hr : r < f.length) {z : Nat} (h : Reached C (l.getD r 0) z) : ∃ k, k < f.length ∧ Reached f r k ∧ l.getD k 0 = z := by
  induction h with
  | root => exact ⟨r, hr, .root, rfl⟩
  | opt _ hk hx ih =>
    obtain ⟨k, hkl, hrk, rfl⟩ := ih
    obtain ⟨n0, hn0⟩ := lt_get hkl
    have h1 := ha.node k n0 hn0
    rw [hk] at h1
    injection h1 with h1
    subst h1
    unfold movd at hx
    simp only [mem_sortd, List.mem_map] at hx
    rcases hx with ⟨y, hy, rfl⟩ | ⟨y, hy, rfl⟩
    · exact ⟨y, by have := hu k n0 hn0 y (Or.inl hy); omega, .opt hrk hn0 (Or.inl hy), rfl⟩
    · exact ⟨y, by have := hu k n0 hn0 y (Or.inr hy); omega, .opt hrk hn0 (Or.inr hy), rfl⟩
theorem canon_iff {P : List Nd} {b : Nat → Nat} {need need' : Nat → Prop} {out : List Nd} {pl : Nat → Nat} (h : Canon P b need out pl) (hi : ∀ k, k < P.length → (need k ↔ need' k)) : Canon P b need' out pl :=
  ⟨fun k nd hk hn => h.node k nd hk ((hi k (get_lt hk)).2 hn), fun i hl => by obtain ⟨k, h1, h2, h3⟩ := h.from' i hl; exact ⟨k, h1, (hi k h1).1 h2, h3⟩,
    fun k j hk hj nk nj => h.born k j hk hj ((hi k hk).2 nk) ((hi j hj).2 nj), fun k j x y hk hj nk nj => h.ahead k j x y hk hj ((hi k hk).2 nk) ((hi j hj).2 nj), fun k j hk hj nk nj => h.once k j hk hj ((hi k hk).2 nk) ((hi j hj).2 nj)⟩
/-- A PART: what the model's book makes of a place of a good form is what the program makes of it -/
theorem part_eq (f : List Nd) (hf : Struct f) (hr : Rising f (bOf f)) (i : Nat) (hi : i < f.length) :
    (formF (fun k => (reachF (addF [] f).1 ((addF [] f).2.getD i 0)).getD k false) (bOf (addF [] f).1) (addF [] f).1 ((addF [] f).2.getD i 0) (bOf (addF [] f).1 ((addF [] f).2.getD i 0) + 1)).2 =
      (partN f (fun k => (reachF f i).getD k false) i (i + 1)).2 := by
  have hu := hf.under
  have hb := births_bOf f hu
  have ha := addF_added [] book_nil f hu
  obtain ⟨nd, hnd⟩ := lt_get hi
  have hroot := get_lt (ha.node _ nd hnd)
  have hbu := ha.book.struct.under
  have hB := rising_book hf hr
  have hreach : ∀ k, (reachF f i).getD k false = true ↔ Reached f i k := fun k => reachF_is f hu i hi k
  have h1 := (formF_canon _ _ ha.book _ hroot (fun k => reachF_is _ hbu _ hroot k)).comp hu ha
  have hs : Shut f (fun k => (reachF f i).getD k false = true) := fun k nd hk h x hx => (hreach x).2 (.opt ((hreach k).1 h) hk hx)
  have h2 := part_canon f hf hr (fun k => (reachF f i).getD k false) hs i hi (fun k h => ((hreach k).1 h).le hu)
  have hiff : ∀ k, k < f.length → (Reached (addF [] f).1 ((addF [] f).2.getD i 0) ((addF [] f).2.getD k 0) ↔ (reachF f i).getD k false = true) := fun k hk => by
    rw [hreach k]
    constructor
    · intro h
      obtain ⟨j, hj, hrj, e⟩ := added_back hu ha i hi h
      rw [← added_inj hB ha f.length j k hj hk hj hk e]
      exact hrj
    · exact added_reach ha
  have h3 := canon_iff h1 hiff
  exact (Canon.unique hb hs hu h3 h2).1

end Go.Proofs.Ytabfdaofikccmaa
