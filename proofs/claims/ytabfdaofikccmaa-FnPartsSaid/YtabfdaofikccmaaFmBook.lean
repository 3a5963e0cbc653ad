/- Games put into a book, each once, and out of it in order: what the model of chapter 3 does, and that its forms are the ones in order. -/
import Derived.Test.YtabfdaofikccmaaFmMath
namespace Go.Proofs.Ytabfdaofikccmaa

theorem snocInd {α : Type} {p : List α → Prop} (nil : p []) (snoc : ∀ l x, p l → p (l ++ [x])) (l : List α) : p l := by
  have h : ∀ m : List α, p m.reverse := fun m => by
    induction m with
    | nil => exact nil
    | cons x m ih => rw [List.reverse_cons]; exact snoc _ _ ih
  have := h l.reverse
  rw [List.reverse_reverse] at this
  exact this
/-- birthdays, node by node -/
def bornsOf (ns : List Nd) : List Nat := ns.foldl (fun bs nd => bs ++ [lastOf (fun x => bs.getD x 0) nd]) []
theorem bornsOf_snoc (ns : List Nd) (nd : Nd) : bornsOf (ns ++ [nd]) = bornsOf ns ++ [lastOf (fun x => (bornsOf ns).getD x 0) nd] := by
  simp [bornsOf, List.foldl_append]
theorem bornsOf_len (ns : List Nd) : (bornsOf ns).length = ns.length := by
  induction ns using snocInd with
  | nil => rfl
  | snoc ns nd ih => rw [bornsOf_snoc]; simp [ih]
theorem bornsOf_pre (a c : List Nd) : bornsOf a <+: bornsOf (a ++ c) := by
  induction c using snocInd with
  | nil => simp
  | snoc c nd ih =>
    rw [← List.append_assoc, bornsOf_snoc]
    exact List.IsPrefix.trans ih (List.prefix_append _ _)
theorem getD_pre {a c : List Nat} (h : a <+: c) (i : Nat) (hi : i < a.length) : c.getD i 0 = a.getD i 0 := by
  obtain ⟨t, rfl⟩ := h
  simp [List.getD_eq_getElem?_getD, List.getElem?_append_left hi]
theorem lastOf_congr (b c : Nat → Nat) (nd : Nd) (h : ∀ x, x ∈ nd.1 ∨ x ∈ nd.2 → b x = c x) : lastOf b nd = lastOf c nd := by
  refine Nat.le_antisymm (lastOf_le _ _ _ fun x hx => ?_) (lastOf_le _ _ _ fun x hx => ?_)
  · rw [h x hx]; exact lastOf_lt c nd x hx
  · rw [← h x hx]; exact lastOf_lt b nd x hx
/-- a birthday by its place -/
def bOf (ns : List Nd) (k : Nat) : Nat := (bornsOf ns).getD k 0
theorem births_bOf (ns : List Nd) (hu : Under ns) : Births ns (bOf ns) := by
  intro k nd hk
  have hlt := get_lt hk
  have e : ns = ns.take k ++ [nd] ++ ns.drop (k + 1) := by
    have h1 : ns.take (k + 1) = ns.take k ++ [nd] := by
      rw [List.take_succ_eq_append_getElem hlt]
      rw [List.getElem?_eq_getElem hlt] at hk
      injection hk with hk
      rw [hk]
    rw [← h1, List.take_append_drop]
  have hp : bornsOf (ns.take k ++ [nd]) <+: bornsOf ns := by
    have := bornsOf_pre (ns.take k ++ [nd]) (ns.drop (k + 1))
    rw [← e] at this
    exact this
  have hl : (ns.take k).length = k := by simp; omega
  have hp2 : bornsOf (ns.take k) <+: bornsOf ns := List.IsPrefix.trans (by rw [bornsOf_snoc]; exact List.prefix_append _ _) hp
  unfold bOf
  rw [getD_pre hp k (by rw [bornsOf_len]; simp; omega), bornsOf_snoc]
  rw [List.getD_eq_getElem?_getD, List.getElem?_append_right (by rw [bornsOf_len, hl]; omega), bornsOf_len, hl, Nat.sub_self]
  simp only [List.getElem?_cons_zero, Option.getD_some]
  refine lastOf_congr _ _ _ fun x hx => ?_
  have hxk := hu k nd hk x hx
  exact (getD_pre hp2 x (by rw [bornsOf_len, hl]; omega)).symm
/-- where a node stands, or would -/
def seat (B : List Nd) (nd : Nd) : Nat := B.idxOf nd
def bookPut (B : List Nd) (nd : Nd) : List Nd := if nd ∈ B then B else B ++ [nd]
theorem seat_get (B : List Nd) (nd : Nd) : (bookPut B nd)[seat B nd]? = some nd := by
  unfold bookPut seat
  split
  · rename_i h
    have h1 := List.idxOf_lt_length_of_mem h
    rw [List.getElem?_eq_getElem h1]
    simp
  · rename_i h
    rw [List.idxOf_eq_length h, List.getElem?_append_right (Nat.le_refl _)]
    simp
theorem bookPut_pre (B : List Nd) (nd : Nd) : B <+: bookPut B nd := by
  unfold bookPut
  split
  · exact List.prefix_refl _
  · exact List.prefix_append _ _
theorem get_pre {α : Type} {a c : List α} (h : a <+: c) {i : Nat} {x : α} (hx : a[i]? = some x) : c[i]? = some x := by
  obtain ⟨t, rfl⟩ := h
  rw [List.getElem?_append_left (get_lt hx)]
  exact hx
/-- a book: rising options ahead, no node twice -/
structure Book (B : List Nd) : Prop where
  struct : Struct B
  nodup : B.Nodup
theorem Book.put {B : List Nd} (h : Book B) {nd : Nd} (h1 : nd.1.Pairwise (· < ·)) (h2 : nd.2.Pairwise (· < ·)) (h3 : ∀ x, x ∈ nd.1 ∨ x ∈ nd.2 → x < B.length) : Book (bookPut B nd) := by
  unfold bookPut
  split
  · exact h
  · rename_i hn
    refine ⟨fun k n0 hk => ?_, ?_⟩
    · rcases Nat.lt_or_ge k B.length with hlt | hge
      · rw [List.getElem?_append_left hlt] at hk
        exact h.struct k n0 hk
      · rw [List.getElem?_append_right hge] at hk
        have h0 : k - B.length = 0 := by
          have := get_lt hk
          simp at this
          omega
        rw [h0] at hk
        simp at hk
        subst hk
        exact ⟨h1, h2, fun x hx => Nat.lt_of_lt_of_le (h3 x hx) hge⟩
    · rw [List.nodup_append]
      exact ⟨h.nodup, by simp, fun a ha b hb => by simp at hb; subst hb; intro e; subst e; exact hn ha⟩
/-- a form's nodes put into a book, one by one -/
def addF (B : List Nd) (f : List Nd) : List Nd × List Nat :=
  f.foldl (fun s nd => (bookPut s.1 (movd (fun x => s.2.getD x 0) nd), s.2 ++ [seat s.1 (movd (fun x => s.2.getD x 0) nd)])) (B, [])
theorem addF_snoc (B f : List Nd) (nd : Nd) : addF B (f ++ [nd]) =
    (bookPut (addF B f).1 (movd (fun x => (addF B f).2.getD x 0) nd), (addF B f).2 ++ [seat (addF B f).1 (movd (fun x => (addF B f).2.getD x 0) nd)]) := by
  simp [addF, List.foldl_append]
theorem under_snoc {f : List Nd} {nd : Nd} (h : Under (f ++ [nd])) : Under f ∧ ∀ x, x ∈ nd.1 ∨ x ∈ nd.2 → x < f.length := by
  refine ⟨fun k n0 hk => h k n0 (by rw [List.getElem?_append_left (get_lt hk)]; exact hk), h f.length nd (by simp)⟩
/-- what a book holds behind the adding -/
structure Added (B f : List Nd) (C : List Nd) (l : List Nat) : Prop where
  book : Book C
  pre : B <+: C
  len : l.length = f.length
  node : ∀ (k : Nat) (nd : Nd), f[k]? = some nd → C[l.getD k 0]? = some (movd (fun x => l.getD x 0) nd)
  from' : ∀ i, i < C.length → i < B.length ∨ ∃ k, k < f.length ∧ l.getD k 0 = i
theorem getD_snoc_lt (l : List Nat) (n i : Nat) (h : i < l.length) : (l ++ [n]).getD i 0 = l.getD i 0 := by
  simp [List.getD_eq_getElem?_getD, List.getElem?_append_left h]
theorem getD_snoc_last (l : List Nat) (n : Nat) : (l ++ [n]).getD l.length 0 = n := by
  simp [List.getD_eq_getElem?_getD]
theorem addF_added (B : List Nd) (hB : Book B) (f : List Nd) (hf : Under f) : Added B f (addF B f).1 (addF B f).2 := by
  induction f using snocInd with
  | nil => exact ⟨hB, List.prefix_refl _, rfl, fun k nd hk => by simp at hk, fun i hi => Or.inl hi⟩
  | snoc f nd ih =>
    obtain ⟨hu, hx⟩ := under_snoc hf
    have h := ih hu
    rw [addF_snoc]
    generalize (addF B f).1 = C at h ⊢
    generalize (addF B f).2 = l at h ⊢
    have hlt : ∀ x, x < f.length → l.getD x 0 < C.length := fun x hxl => by
      obtain ⟨n0, hn0⟩ := lt_get hxl
      exact get_lt (h.node x n0 hn0)
    have hm : ∀ x, x ∈ (movd (fun x => l.getD x 0) nd).1 ∨ x ∈ (movd (fun x => l.getD x 0) nd).2 → x < C.length := fun x hxx => by
      unfold movd at hxx
      simp only [mem_sortd, List.mem_map] at hxx
      rcases hxx with ⟨y, hy, rfl⟩ | ⟨y, hy, rfl⟩
      · exact hlt y (hx y (Or.inl hy))
      · exact hlt y (hx y (Or.inr hy))
    refine ⟨h.book.put (sortd_asc _) (sortd_asc _) hm, List.IsPrefix.trans h.pre (bookPut_pre _ _), by simp [h.len], fun k n0 hk => ?_, fun i hi => ?_⟩
    · have hsame : ∀ x, x ∈ n0.1 ∨ x ∈ n0.2 → (l ++ [seat C (movd (fun x => l.getD x 0) nd)]).getD x 0 = l.getD x 0 := fun x hxx => by
        have := hf k n0 hk x hxx
        have hk2 := get_lt hk
        simp at hk2
        exact getD_snoc_lt l _ x (by rw [h.len]; omega)
      rw [movd_congr _ _ _ hsame]
      rcases Nat.lt_or_ge k f.length with hkl | hkl
      · rw [List.getElem?_append_left hkl] at hk
        rw [getD_snoc_lt l _ k (by rw [h.len]; exact hkl)]
        exact get_pre (bookPut_pre _ _) (h.node k n0 hk)
      · have hk0 : k = f.length := by
          have hk2 := get_lt hk
          simp at hk2
          omega
        subst hk0
        simp at hk
        subst hk
        have e := getD_snoc_last l (seat C (movd (fun x => l.getD x 0) nd))
        rw [h.len] at e
        rw [e]
        exact seat_get C _
    · unfold bookPut at hi
      split at hi
      · rcases h.from' i hi with h1 | ⟨k, hk, h1⟩
        · exact Or.inl h1
        · exact Or.inr ⟨k, by simp; omega, by rw [getD_snoc_lt l _ k (by rw [h.len]; exact hk)]; exact h1⟩
      · rename_i hn
        simp at hi
        rcases Nat.lt_or_ge i C.length with hlt2 | hge
        · rcases h.from' i hlt2 with h1 | ⟨k, hk, h1⟩
          · exact Or.inl h1
          · exact Or.inr ⟨k, by simp; omega, by rw [getD_snoc_lt l _ k (by rw [h.len]; exact hk)]; exact h1⟩
        · refine Or.inr ⟨f.length, by simp, ?_⟩
          have e := getD_snoc_last l (seat C (movd (fun x => l.getD x 0) nd))
          rw [h.len] at e
          rw [e]
          unfold seat
          rw [List.idxOf_eq_length hn]
          omega
/-- birthdays in the book are those of the form -/
theorem Added.births {f C : List Nd} {B : List Nd} {l : List Nat} (h : Added B f C l) (hf : Under f) : ∀ k, k < f.length → bOf C (l.getD k 0) = bOf f k := by
  have hb := births_bOf f hf
  have hc := births_bOf C h.book.struct.under
  intro k
  induction k using Nat.strongRecOn with
  | ind k ih =>
    intro hk
    obtain ⟨nd, hnd⟩ := lt_get hk
    rw [hc _ _ (h.node k nd hnd), hb k nd hnd]
    unfold movd
    exact lastOf_map _ _ (fun x => l.getD x 0) nd fun x hx => ih x (hf k nd hnd x hx) (by have := hf k nd hnd x hx; omega)
/-- what is in order by the book is in order by the form -/
theorem Canon.comp {f C out : List Nd} {l : List Nat} {need : Nat → Prop} {pl : Nat → Nat} (hf : Under f) (ha : Added [] f C l) (h : Canon C (bOf C) need out pl) :
    Canon f (bOf f) (fun k => need (l.getD k 0)) out (fun k => pl (l.getD k 0)) := by
  have hbb := ha.births hf
  have hlt : ∀ x, x < f.length → l.getD x 0 < C.length := fun x hxl => by
    obtain ⟨n0, hn0⟩ := lt_get hxl
    exact get_lt (ha.node x n0 hn0)
  refine ⟨fun k nd hk hn => ?_, fun i hi => ?_, fun k j hk hj hkn hjn hlt2 => ?_, fun k j x y hk hj hkn hjn he hx hy ht => ?_, fun k j hk hj hkn hjn he => ?_⟩
  · have := h.node _ _ (ha.node k nd hk) hn
    rw [movd_movd] at this
    exact this
  · obtain ⟨k, hk, hn, rfl⟩ := h.from' i hi
    rcases ha.from' k hk with h1 | ⟨j, hj, rfl⟩
    · simp at h1
    · exact ⟨j, hj, hn, rfl⟩
  · exact h.born _ _ (hlt k hk) (hlt j hj) hkn hjn (by rw [hbb k hk, hbb j hj]; exact hlt2)
  · exact h.ahead _ _ x y (hlt k hk) (hlt j hj) hkn hjn (by rw [hbb k hk, hbb j hj]; exact he) hx hy ht
  · exact h.once _ _ (hlt k hk) (hlt j hj) hkn hjn he
/-- which nodes are reached from one -/
inductive Reached (B : List Nd) (root : Nat) : Nat → Prop
  | root : Reached B root root
  | opt {k x : Nat} {nd : Nd} : Reached B root k → B[k]? = some nd → (x ∈ nd.1 ∨ x ∈ nd.2) → Reached B root x
theorem Reached.le {B : List Nd} {root k : Nat} (hu : Under B) (h : Reached B root k) : k ≤ root := by
  induction h with
  | root => exact Nat.le_refl _
  | opt _ hk hx ih => have := hu _ _ hk _ hx; omega
theorem Reached.shut {B : List Nd} {root : Nat} : Shut B (Reached B root) := fun _ _ hk hn _ hx => .opt hn hk hx
theorem Reached.born {B : List Nd} {root k : Nat} {b : Nat → Nat} (hb : Births B b) (h : Reached B root k) : k = root ∨ b k < b root := by
  induction h with
  | root => exact Or.inl rfl
  | opt _ hk hx ih =>
    right
    have h1 := lastOf_lt b _ _ hx
    rw [← hb _ _ hk] at h1
    rcases ih with rfl | h2 <;> omega
/-- a node put to its place among such as are born alike -/
def insNd (s : List Nd × List Nat) (x : Nd) (k : Nat) : List Nd × List Nat :=
  let i := (s.1.takeWhile (fun y => ltNd y x)).length
  (s.1.take i ++ x :: s.1.drop i, s.2.take i ++ k :: s.2.drop i)
/-- the nodes of one birthday, in order -/
def lvl (need : Nat → Bool) (b : Nat → Nat) (B : List Nd) (pl : Nat → Nat) (n : Nat) : Nat → List Nd × List Nat
  | 0 => ([], [])
  | k + 1 => if need k && b k == n then insNd (lvl need b B pl n k) (movd pl (B.getD k ([], []))) k else lvl need b B pl n k
/-- places told one by one -/
def setAll (a : List Nat) (m : Nat) : List Nat → List Nat
  | [] => a
  | k :: fr => setAll (a.set k m) (m + 1) fr
/-- the nodes of all birthdays below one, in order -/
def formF (need : Nat → Bool) (b : Nat → Nat) (B : List Nd) (root : Nat) : Nat → List Nat × List Nd
  | 0 => (List.replicate (root + 1) 0, [])
  | n + 1 =>
    let s := formF need b B root n
    let v := lvl need b B (fun x => s.1.getD x 0) n (root + 1)
    (setAll s.1 s.2.length v.2, s.2 ++ v.1)
theorem takeWhile_len {α : Type} (p : α → Bool) (l : List α) : (l.takeWhile p).length ≤ l.length := by
  induction l with
  | nil => simp
  | cons x l ih =>
    rw [List.takeWhile_cons]
    split
    · simp only [List.length_cons]; omega
    · simp
theorem takeWhile_split (ls : List Nd) (x : Nd) (h : ls.Pairwise (fun a b => ltNd a b = true)) :
    (∀ y ∈ ls.take (ls.takeWhile (fun y => ltNd y x)).length, ltNd y x = true) ∧ (∀ y ∈ ls.drop (ls.takeWhile (fun y => ltNd y x)).length, ltNd y x = false) := by
  induction ls with
  | nil => simp
  | cons z ls ih =>
    rw [List.pairwise_cons] at h
    by_cases hz : ltNd z x = true
    · rw [List.takeWhile_cons_of_pos (p := fun y => ltNd y x) hz]
      simp only [List.length_cons, List.take_succ_cons, List.drop_succ_cons, List.mem_cons]
      refine ⟨fun y hy => ?_, (ih h.2).2⟩
      rcases hy with rfl | hy
      · exact hz
      · exact (ih h.2).1 y hy
    · rw [List.takeWhile_cons_of_neg (p := fun y => ltNd y x) hz]
      simp only [List.length_nil, List.take_zero, List.drop_zero, List.mem_cons, List.not_mem_nil, false_imp_iff, implies_true, true_and]
      intro y hy
      rcases hy with rfl | hy
      · simpa using hz
      · have h1 := h.1 y hy
        cases h2 : ltNd y x with
        | false => rfl
        | true => exact absurd (ltNd_trans z y x h1 h2) hz
/-- the nodes of one birthday: which, and where they come from -/
structure Lvl (need : Nat → Bool) (b : Nat → Nat) (B : List Nd) (pl : Nat → Nat) (n k : Nat) (s : List Nd × List Nat) : Prop where
  len : s.1.length = s.2.length
  asc : s.1.Pairwise (fun a b => ltNd a b = true)
  node : ∀ (i j : Nat), s.2[i]? = some j → s.1[i]? = some (movd pl (B.getD j ([], [])))
  mem : ∀ j, j ∈ s.2 ↔ (j < k ∧ need j = true ∧ b j = n)
  nodup : s.2.Nodup
theorem lvl_is (need : Nat → Bool) (b : Nat → Nat) (B : List Nd) (pl : Nat → Nat) (n : Nat)
    (hinj : ∀ i j, need i = true → need j = true → b i = n → b j = n → movd pl (B.getD i ([], [])) = movd pl (B.getD j ([], [])) → i = j) (k : Nat) : Lvl need b B pl n k (lvl need b B pl n k) := by
  induction k with
  | zero => exact ⟨rfl, List.Pairwise.nil, fun i j h => by simp [lvl] at h, fun j => by simp [lvl], List.nodup_nil⟩
  | succ k ih =>
    unfold lvl
    split
    · rename_i hc
      simp only [Bool.and_eq_true, beq_iff_eq] at hc
      generalize lvl need b B pl n k = s at ih ⊢
      obtain ⟨ls, fr⟩ := s
      have hlen : ls.length = fr.length := ih.len
      have hle : (ls.takeWhile (fun y => ltNd y (movd pl (B.getD k ([], []))))).length ≤ ls.length := takeWhile_len _ _
      obtain ⟨t1, t2⟩ := takeWhile_split ls (movd pl (B.getD k ([], []))) ih.asc
      unfold insNd
      simp only
      generalize (ls.takeWhile (fun y => ltNd y (movd pl (B.getD k ([], []))))).length = m at hle t1 t2 ⊢
      have hkfr : k ∉ fr := fun h => by have := (ih.mem k).1 h; omega
      have hpm : (fr.take m ++ k :: fr.drop m).Perm (k :: fr) := by
        refine List.Perm.trans List.perm_middle ?_
        rw [List.take_append_drop]
      have hne : ∀ y ∈ ls, y ≠ movd pl (B.getD k ([], [])) := fun y hy e => by
        obtain ⟨i, hi⟩ := List.getElem?_of_mem hy
        obtain ⟨j, hj⟩ := lt_get (l := fr) (i := i) (by rw [← hlen]; exact get_lt hi)
        have h1 := ih.node i j hj
        have h1' : ls[i]? = some (movd pl (B.getD j ([], []))) := h1
        rw [hi] at h1'
        injection h1' with h1'
        have hm := (ih.mem j).1 (List.mem_of_getElem? hj)
        have := hinj j k hm.2.1 hc.1 hm.2.2 hc.2 (by rw [← h1', e])
        omega
      refine ⟨by simp [hlen], ?_, fun i j hj => ?_, fun j => ?_, ?_⟩
      · show (ls.take m ++ movd pl (B.getD k ([], [])) :: ls.drop m).Pairwise _
        have hsp := ih.asc
        have hsp' : (ls.take m ++ ls.drop m).Pairwise (fun a b => ltNd a b = true) := by rw [List.take_append_drop]; exact hsp
        rw [List.pairwise_append] at hsp'
        rw [List.pairwise_append]
        refine ⟨hsp'.1, ?_, fun a ha c hc2 => ?_⟩
        · rw [List.pairwise_cons]
          refine ⟨fun c hc2 => ?_, hsp'.2.1⟩
          rcases ltNd_tri (movd pl (B.getD k ([], []))) c with h1 | h1 | h1
          · exact h1
          · exact absurd h1.symm (hne c (List.mem_of_mem_drop hc2))
          · rw [t2 c hc2] at h1; cases h1
        · rcases List.mem_cons.1 hc2 with rfl | hc2
          · exact t1 a ha
          · exact hsp'.2.2 a ha c hc2
      · have hj' : (fr.take m ++ k :: fr.drop m)[i]? = some j := hj
        show (ls.take m ++ movd pl (B.getD k ([], [])) :: ls.drop m)[i]? = _
        have hmf : (fr.take m).length = m := by rw [List.length_take]; omega
        have hml : (ls.take m).length = m := by rw [List.length_take]; omega
        rcases Nat.lt_trichotomy i m with h1 | h1 | h1
        · rw [List.getElem?_append_left (by omega), List.getElem?_take_of_lt h1] at hj'
          rw [List.getElem?_append_left (by omega), List.getElem?_take_of_lt h1]
          exact ih.node i j hj'
        · subst h1
          rw [List.getElem?_append_right (by omega), hmf, Nat.sub_self] at hj'
          rw [List.getElem?_append_right (by omega), hml, Nat.sub_self]
          simp at hj'
          subst hj'
          simp
        · obtain ⟨d, rfl⟩ : ∃ d, i = m + (d + 1) := ⟨i - m - 1, by omega⟩
          rw [List.getElem?_append_right (by omega), hmf, show m + (d + 1) - m = d + 1 from by omega, List.getElem?_cons_succ, List.getElem?_drop] at hj'
          rw [List.getElem?_append_right (by omega), hml, show m + (d + 1) - m = d + 1 from by omega, List.getElem?_cons_succ, List.getElem?_drop]
          exact ih.node (m + d) j hj'
      · show j ∈ fr.take m ++ k :: fr.drop m ↔ _
        rw [hpm.mem_iff, List.mem_cons, ih.mem j]
        constructor
        · rintro (rfl | ⟨h1, h2⟩)
          · exact ⟨by omega, hc⟩
          · exact ⟨by omega, h2⟩
        · rintro ⟨h1, h2⟩
          rcases Nat.lt_or_ge j k with h3 | h3
          · exact Or.inr ⟨h3, h2⟩
          · exact Or.inl (by omega)
      · show (fr.take m ++ k :: fr.drop m).Nodup
        rw [hpm.nodup_iff, List.nodup_cons]
        exact ⟨hkfr, ih.nodup⟩
    · rename_i hc
      refine ⟨ih.len, ih.asc, ih.node, fun j => ?_, ih.nodup⟩
      rw [ih.mem j]
      constructor
      · rintro ⟨h1, h2⟩; exact ⟨by omega, h2⟩
      · rintro ⟨h1, h2⟩
        refine ⟨?_, h2⟩
        rcases Nat.lt_or_ge j k with h3 | h3
        · exact h3
        · exfalso
          have : j = k := by omega
          subst this
          apply hc
          simp [h2]
theorem setAll_len (a : List Nat) (m : Nat) (fr : List Nat) : (setAll a m fr).length = a.length := by
  induction fr generalizing a m with
  | nil => rfl
  | cons k fr ih => unfold setAll; rw [ih]; simp
theorem setAll_not (a : List Nat) (m : Nat) (fr : List Nat) (j : Nat) (h : j ∉ fr) : (setAll a m fr).getD j 0 = a.getD j 0 := by
  induction fr generalizing a m with
  | nil => rfl
  | cons k fr ih =>
    simp only [List.mem_cons, not_or] at h
    unfold setAll
    rw [ih _ _ h.2]
    simp [List.getD_eq_getElem?_getD, List.getElem?_set_ne (Ne.symm h.1)]
theorem setAll_at (a : List Nat) (m : Nat) (fr : List Nat) (i j : Nat) (h : fr[i]? = some j) (hn : fr.Nodup) (hj : j < a.length) : (setAll a m fr).getD j 0 = m + i := by
  induction fr generalizing a m i with
  | nil => simp at h
  | cons k fr ih =>
    rw [List.nodup_cons] at hn
    unfold setAll
    cases i with
    | zero =>
      simp at h
      subst h
      rw [setAll_not _ _ _ _ hn.1]
      simp [List.getD_eq_getElem?_getD, hj]
    | succ i =>
      simp at h
      rw [ih (a.set k m) (m + 1) i h hn.2 (by simpa using hj)]
      omega
/-- what stands when all of the birthdays below n are in order -/
structure Form' (need : Nat → Bool) (B : List Nd) (root n : Nat) (s : List Nat × List Nd) : Prop where
  canon : Canon B (bOf B) (fun k => need k = true ∧ bOf B k < n) s.2 (fun k => s.1.getD k 0)
  inj : ∀ k j, k < B.length → j < B.length → need k = true ∧ bOf B k < n → need j = true ∧ bOf B j < n → s.1.getD k 0 = s.1.getD j 0 → k = j
  len : s.1.length = root + 1
theorem movd_inj {B : List Nd} (hB : Book B) {need : Nat → Prop} {pl : Nat → Nat} (hinj : ∀ x y, x < B.length → y < B.length → need x → need y → pl x = pl y → x = y)
    {k j : Nat} {x y : Nd} (hk : B[k]? = some x) (hj : B[j]? = some y) (hx : ∀ z, z ∈ x.1 ∨ z ∈ x.2 → need z) (hy : ∀ z, z ∈ y.1 ∨ z ∈ y.2 → need z) (h : movd pl x = movd pl y) : k = j := by
  have sx := hB.struct k x hk
  have sy := hB.struct j y hj
  have kl := get_lt hk
  have jl := get_lt hj
  have key : ∀ (l m : List Nat), (∀ z ∈ l, need z ∧ z < B.length) → (∀ z ∈ m, need z ∧ z < B.length) → sortd (l.map pl) = sortd (m.map pl) → ∀ z, z ∈ l → z ∈ m := by
    intro l m hl hm e z hz
    have h1 : pl z ∈ sortd (l.map pl) := by rw [mem_sortd]; exact List.mem_map_of_mem hz
    rw [e, mem_sortd, List.mem_map] at h1
    obtain ⟨z', hz', e'⟩ := h1
    have := hinj z' z (hm z' hz').2 (hl z hz).2 (hm z' hz').1 (hl z hz).1 e'
    subst this
    exact hz'
  unfold movd at h
  injection h with h1 h2
  have a1 : ∀ z ∈ x.1, need z ∧ z < B.length := fun z hz => ⟨hx z (Or.inl hz), by have := sx.2.2 z (Or.inl hz); omega⟩
  have a2 : ∀ z ∈ y.1, need z ∧ z < B.length := fun z hz => ⟨hy z (Or.inl hz), by have := sy.2.2 z (Or.inl hz); omega⟩
  have b1 : ∀ z ∈ x.2, need z ∧ z < B.length := fun z hz => ⟨hx z (Or.inr hz), by have := sx.2.2 z (Or.inr hz); omega⟩
  have b2 : ∀ z ∈ y.2, need z ∧ z < B.length := fun z hz => ⟨hy z (Or.inr hz), by have := sy.2.2 z (Or.inr hz); omega⟩
  have e1 := asc_ext x.1 y.1 sx.1 sy.1 fun z => ⟨key _ _ a1 a2 h1 z, key _ _ a2 a1 h1.symm z⟩
  have e2 := asc_ext x.2 y.2 sx.2.1 sy.2.1 fun z => ⟨key _ _ b1 b2 h2 z, key _ _ b2 b1 h2.symm z⟩
  have : x = y := Prod.ext e1 e2
  subst this
  have hkj : B[k]? = B[j]? := hk.trans hj.symm
  exact List.getElem?_inj kl hB.nodup |>.1 hkj
theorem form_step (need : Nat → Bool) (B : List Nd) (hB : Book B) (root n : Nat) (hs : Shut B (fun k => need k = true)) (hr : ∀ k, need k = true → k ≤ root ∧ k < B.length) (s : List Nat × List Nd)
    (h : Form' need B root n s) : Form' need B root (n + 1) (setAll s.1 s.2.length (lvl need (bOf B) B (fun x => s.1.getD x 0) n (root + 1)).2, s.2 ++ (lvl need (bOf B) B (fun x => s.1.getD x 0) n (root + 1)).1) := by
  have hu := hB.struct.under
  have hb := births_bOf B hu
  have hget : ∀ {k nd}, B[k]? = some nd → B.getD k ([], []) = nd := fun {k nd} hk => by rw [List.getD_eq_getElem?_getD, hk]; rfl
  have hopt : ∀ {k nd}, B[k]? = some nd → need k = true → ∀ x, x ∈ nd.1 ∨ x ∈ nd.2 → need x = true ∧ bOf B x < bOf B k := fun {k nd} hk hn x hx =>
    ⟨hs k nd hk hn x hx, by rw [hb k nd hk]; exact lastOf_lt _ nd x hx⟩
  have hL := lvl_is need (bOf B) B (fun x => s.1.getD x 0) n (fun i j hi hj ei ej e => by
    obtain ⟨x, hx⟩ := lt_get (hr i hi).2
    obtain ⟨y, hy⟩ := lt_get (hr j hj).2
    rw [hget hx, hget hy] at e
    exact movd_inj hB (need := fun k => need k = true ∧ bOf B k < n) h.inj hx hy (fun z hz => by rw [← ei]; exact hopt hx hi z hz) (fun z hz => by rw [← ej]; exact hopt hy hj z hz) e) (root + 1)
  generalize lvl need (bOf B) B (fun x => s.1.getD x 0) n (root + 1) = v at hL
  obtain ⟨pl, out⟩ := s
  obtain ⟨ls, fr⟩ := v
  have hlen : pl.length = root + 1 := h.len
  have hout := h.canon
  have hinj := h.inj
  have hll : ls.length = fr.length := hL.len
  simp only at hout hinj hL ⊢
  -- places of the new ones and of the old ones
  have pnew : ∀ j, need j = true → bOf B j = n → ∃ i, fr[i]? = some j ∧ i < ls.length ∧ (setAll pl out.length fr).getD j 0 = out.length + i := fun j hj hbj => by
    obtain ⟨i, hi⟩ := List.getElem?_of_mem ((hL.mem j).2 ⟨by have := (hr j hj).1; omega, hj, hbj⟩)
    exact ⟨i, hi, by rw [hll]; exact get_lt hi, setAll_at pl _ fr i j hi hL.nodup (by have := (hr j hj).1; omega)⟩
  have pold : ∀ j, bOf B j < n → (setAll pl out.length fr).getD j 0 = pl.getD j 0 := fun j hbj => setAll_not pl _ fr j fun hm => by have := ((hL.mem j).1 hm).2.2; omega
  have oldlt : ∀ j, j < B.length → need j = true → bOf B j < n → pl.getD j 0 < out.length := fun j hj hn hbj => hout.placed hj ⟨hn, hbj⟩
  have same : ∀ {k nd}, B[k]? = some nd → need k = true → bOf B k < n + 1 → movd (fun x => (setAll pl out.length fr).getD x 0) nd = movd (fun x => pl.getD x 0) nd := fun {k nd} hk hn hbk =>
    movd_congr _ _ _ fun x hx => pold x (by have := (hopt hk hn x hx).2; omega)
  have node : ∀ (k : Nat) (nd : Nd), B[k]? = some nd → (need k = true ∧ bOf B k < n + 1) → (out ++ ls)[(setAll pl out.length fr).getD k 0]? = some (movd (fun x => (setAll pl out.length fr).getD x 0) nd) := by
    intro k nd hk ⟨hn, hbk⟩
    rw [same hk hn hbk]
    rcases Nat.lt_or_ge (bOf B k) n with hlt | hge
    · rw [pold k hlt, List.getElem?_append_left (oldlt k (get_lt hk) hn hlt)]
      exact hout.node k nd hk ⟨hn, hlt⟩
    · obtain ⟨i, hi, _, e⟩ := pnew k hn (by omega)
      rw [e, List.getElem?_append_right (by omega), Nat.add_sub_cancel_left, ← hget hk]
      exact hL.node i k hi
  have oncej : ∀ k j, k < B.length → j < B.length → (need k = true ∧ bOf B k < n + 1) → (need j = true ∧ bOf B j < n + 1) →
      (out ++ ls)[(setAll pl out.length fr).getD k 0]? = (out ++ ls)[(setAll pl out.length fr).getD j 0]? → k = j := by
    intro k j hk hj hkn hjn e
    obtain ⟨x, hx⟩ := lt_get hk
    obtain ⟨y, hy⟩ := lt_get hj
    rw [node k x hx hkn, node j y hy hjn, same hx hkn.1 hkn.2, same hy hjn.1 hjn.2] at e
    injection e with e
    exact movd_inj hB (need := fun k => need k = true ∧ bOf B k < n) hinj hx hy (fun z hz => ⟨(hopt hx hkn.1 z hz).1, by have := (hopt hx hkn.1 z hz).2; omega⟩) (fun z hz => ⟨(hopt hy hjn.1 z hz).1, by have := (hopt hy hjn.1 z hz).2; omega⟩) e
  refine ⟨⟨node, fun i hi => ?_, fun k j hk hj hkn hjn hlt => ?_, fun k j x y hk hj hkn hjn he hx hy ht => ?_, fun k j hk hj hkn hjn he => ?_⟩, fun k j hk hj hkn hjn he => ?_, by rw [setAll_len]; exact hlen⟩
  · rw [List.length_append] at hi
    rcases Nat.lt_or_ge i out.length with hlt | hge
    · obtain ⟨k, hk, ⟨hn, hbk⟩, rfl⟩ := hout.from' i hlt
      exact ⟨k, hk, ⟨hn, by omega⟩, pold k hbk⟩
    · obtain ⟨j, hj⟩ := lt_get (l := fr) (i := i - out.length) (by omega)
      have hm := (hL.mem j).1 (List.mem_of_getElem? hj)
      refine ⟨j, (hr j hm.2.1).2, ⟨hm.2.1, by omega⟩, ?_⟩
      rw [setAll_at pl _ fr _ j hj hL.nodup (by omega)]
      omega
  · rw [pold k (by omega)]
    rcases Nat.lt_or_ge (bOf B j) n with h2 | h2
    · rw [pold j h2]
      exact hout.born k j hk hj ⟨hkn.1, by omega⟩ ⟨hjn.1, h2⟩ hlt
    · obtain ⟨i, _, _, e⟩ := pnew j hjn.1 (by omega)
      rw [e]
      have := oldlt k hk hkn.1 (by omega)
      omega
  · rcases Nat.lt_or_ge (bOf B k) n with h2 | h2
    · rw [pold k h2, List.getElem?_append_left (oldlt k hk hkn.1 h2)] at hx
      rw [pold j (by omega), List.getElem?_append_left (oldlt j hj hjn.1 (by omega))] at hy
      rw [pold k h2, pold j (by omega)]
      exact hout.ahead k j x y hk hj ⟨hkn.1, h2⟩ ⟨hjn.1, by omega⟩ he hx hy ht
    · obtain ⟨i, hi, hil, e⟩ := pnew k hkn.1 (by omega)
      obtain ⟨i', hi', hil', e'⟩ := pnew j hjn.1 (by omega)
      rw [e, List.getElem?_append_right (by omega), Nat.add_sub_cancel_left] at hx
      rw [e', List.getElem?_append_right (by omega), Nat.add_sub_cancel_left] at hy
      rw [e, e']
      rcases Nat.lt_trichotomy i i' with h3 | h3 | h3
      · omega
      · subst h3
        rw [hx] at hy
        injection hy with hy
        subst hy
        rw [ltNd_irrefl] at ht; cases ht
      · have hp := List.pairwise_iff_getElem.1 hL.asc i' i hil' hil h3
        rw [List.getElem?_eq_getElem hil] at hx
        rw [List.getElem?_eq_getElem hil'] at hy
        injection hx with hx
        injection hy with hy
        rw [hx, hy, ltNd_asymm x y ht] at hp
        cases hp
  · rw [oncej k j hk hj hkn hjn he]
  · exact oncej k j hk hj hkn hjn (by rw [he])
theorem formF_is (need : Nat → Bool) (B : List Nd) (hB : Book B) (root : Nat) (hs : Shut B (fun k => need k = true)) (hr : ∀ k, need k = true → k ≤ root ∧ k < B.length) (n : Nat) :
    Form' need B root n (formF need (bOf B) B root n) := by
  induction n with
  | zero =>
    refine ⟨⟨fun k nd _ h => absurd h.2 (by omega), fun i hi => by simp [formF] at hi, fun k j _ _ h => absurd h.2 (by omega), fun k j x y _ _ h => absurd h.2 (by omega), fun k j _ _ h => absurd h.2 (by omega)⟩, fun k j _ _ h => absurd h.2 (by omega), by simp [formF]⟩
  | succ n ih => exact form_step need B hB root n hs hr _ ih
/-- THE FORM OF A PLACE IN A BOOK -/
theorem formF_canon (need : Nat → Bool) (B : List Nd) (hB : Book B) (root : Nat) (hroot : root < B.length) (hn : ∀ k, need k = true ↔ Reached B root k) :
    Canon B (bOf B) (Reached B root) (formF need (bOf B) B root (bOf B root + 1)).2 (fun k => (formF need (bOf B) B root (bOf B root + 1)).1.getD k 0) := by
  have hu := hB.struct.under
  have hb := births_bOf B hu
  have h := (formF_is need B hB root (fun k nd hk h1 x hx => (hn x).2 (.opt ((hn k).1 h1) hk hx)) (fun k hk => by have := ((hn k).1 hk).le hu; omega) (bOf B root + 1)).canon
  have e : (fun k => need k = true ∧ bOf B k < bOf B root + 1) = Reached B root := by
    funext k
    apply propext
    rw [hn k]
    constructor
    · exact fun h => h.1
    · refine fun h => ⟨h, ?_⟩
      rcases h.born hb with rfl | h2 <;> omega
  rw [e] at h
  exact h
/-- the last node of a form in order is its root's -/
theorem canon_last {B : List Nd} {root : Nat} {out : List Nd} {pl : Nat → Nat} (hu : Under B) (hroot : root < B.length) (h : Canon B (bOf B) (Reached B root) out pl) : pl root + 1 = out.length := by
  have hb := births_bOf B hu
  have h1 := h.placed hroot .root
  rcases Nat.lt_or_ge (pl root + 1) out.length with h2 | h2
  · obtain ⟨k, hk, hn, e⟩ := h.from' (pl root + 1) h2
    rcases hn.born hb with rfl | h3
    · omega
    · have := h.born k root hk hroot hn .root h3
      omega
  · omega
/-- each node but the last is an option of one -/
def Used (P : List Nd) : Prop := ∀ i, i + 1 < P.length → ∃ (k : Nat) (nd : Nd), P[k]? = some nd ∧ (i ∈ nd.1 ∨ i ∈ nd.2)
theorem canon_used {B : List Nd} {root : Nat} {out : List Nd} {pl : Nat → Nat} (hu : Under B) (hroot : root < B.length) (h : Canon B (bOf B) (Reached B root) out pl) : Used out := by
  intro i hi
  have hl := canon_last hu hroot h
  obtain ⟨k, hk, hn, rfl⟩ := h.from' i (by omega)
  cases hn with
  | root => omega
  | opt hj hnd hx =>
    refine ⟨_, _, h.node _ _ hnd hj, ?_⟩
    unfold movd
    simp only [mem_sortd, List.mem_map]
    rcases hx with hx | hx
    · exact Or.inl ⟨k, hx, rfl⟩
    · exact Or.inr ⟨k, hx, rfl⟩
theorem used_reach {P : List Nd} (hu : Under P) (h : Used P) (d : Nat) (hd : d < P.length) : Reached P (P.length - 1) (P.length - 1 - d) := by
  induction d using Nat.strongRecOn with
  | ind d ih =>
    rcases Nat.eq_zero_or_pos d with rfl | hp
    · exact .root
    · obtain ⟨k, nd, hk, hx⟩ := h (P.length - 1 - d) (by omega)
      have h1 := hu k nd hk _ hx
      have h2 := get_lt hk
      have h3 := ih (P.length - 1 - k) (by omega) (by omega)
      rw [show P.length - 1 - (P.length - 1 - k) = k from by omega] at h3
      exact .opt h3 hk hx
theorem added_reach {f C : List Nd} {l : List Nat} (ha : Added [] f C l) {r k : Nat} (h : Reached f r k) : Reached C (l.getD r 0) (l.getD k 0) := by
  induction h with
  | root => exact .root
  | opt _ hk hx ih =>
    refine .opt ih (ha.node _ _ hk) ?_
    unfold movd
    simp only [mem_sortd, List.mem_map]
    rcases hx with hx | hx
    · exact Or.inl ⟨_, hx, rfl⟩
    · exact Or.inr ⟨_, hx, rfl⟩
theorem book_nil : Book [] := ⟨fun k nd hk => by simp at hk, List.nodup_nil⟩
/-- the form of a form's game, by the book -/
def formOf (f : List Nd) (need : Nat → Bool) : List Nd :=
  (formF need (bOf (addF [] f).1) (addF [] f).1 ((addF [] f).2.getD (f.length - 1) 0) (bOf (addF [] f).1 ((addF [] f).2.getD (f.length - 1) 0) + 1)).2
theorem formOf_canon (f : List Nd) (hf : Under f) (hl : 0 < f.length) (need : Nat → Bool)
    (hn : ∀ k, need k = true ↔ Reached (addF [] f).1 ((addF [] f).2.getD (f.length - 1) 0) k) :
    ∃ pl, Canon (addF [] f).1 (bOf (addF [] f).1) (Reached (addF [] f).1 ((addF [] f).2.getD (f.length - 1) 0)) (formOf f need) pl := by
  have ha := addF_added [] book_nil f hf
  obtain ⟨nd, hnd⟩ := lt_get (l := f) (i := f.length - 1) (by omega)
  exact ⟨_, formF_canon need _ ha.book _ (get_lt (ha.node _ nd hnd)) hn⟩
/-- A FORM IS GOOD: what the program asks is what the model asks -/
theorem good_iff (f : List Nd) (hf : Struct f) (hl : 0 < f.length) (need : Nat → Bool)
    (hn : ∀ k, need k = true ↔ Reached (addF [] f).1 ((addF [] f).2.getD (f.length - 1) 0) k) :
    formOf f need = f ↔ (RisingBy f (bOf f) ∧ Used f) := by
  have hu := hf.under
  have hb := births_bOf f hu
  have ha := addF_added [] book_nil f hu
  obtain ⟨nd, hnd⟩ := lt_get (l := f) (i := f.length - 1) (by omega)
  have hroot := get_lt (ha.node _ nd hnd)
  have hbu := ha.book.struct.under
  obtain ⟨pl, hc⟩ := formOf_canon f hu hl need hn
  constructor
  · intro e
    have hr := hc.rising (births_bOf _ hbu) Reached.shut hbu (c := bOf f) (by rw [e]; exact hb)
    have hus := canon_used hbu hroot hc
    rw [e] at hr hus
    exact ⟨fun k x y hx hy => hr k (k + 1) x y hx hy (by omega), hus⟩
  · rintro ⟨hr, hus⟩
    have h1 := canon_of_rising hf hb hr.rising
    have h2 := hc.comp hu ha
    have h3 : Canon f (bOf f) (fun _ => True) (formOf f need) (fun k => pl ((addF [] f).2.getD k 0)) := by
      have hall : ∀ k, k < f.length → Reached (addF [] f).1 ((addF [] f).2.getD (f.length - 1) 0) ((addF [] f).2.getD k 0) := fun k hk => by
        have := used_reach hu hus (f.length - 1 - k) (by omega)
        rw [show f.length - 1 - (f.length - 1 - k) = k from by omega] at this
        exact added_reach ha this
      exact ⟨fun k nd hk _ => h2.node k nd hk (hall k (get_lt hk)), fun i hi => by obtain ⟨k, hk, _, e⟩ := h2.from' i hi; exact ⟨k, hk, trivial, e⟩,
        fun k j hk hj _ _ => h2.born k j hk hj (hall k hk) (hall j hj), fun k j x y hk hj _ _ => h2.ahead k j x y hk hj (hall k hk) (hall j hj), fun k j hk hj _ _ => h2.once k j hk hj (hall k hk) (hall j hj)⟩
    exact (Canon.unique hb (fun _ _ _ _ _ _ => trivial) hu h3 h1).1

end Go.Proofs.Ytabfdaofikccmaa
