/- The program's putting of nodes into order, day by day, is the order. -/
import Derived.Test.YtabfdaofikccmaaFmPart
namespace Go.Proofs.Ytabfdaofikccmaa
set_option linter.unusedVariables false
set_option linter.unusedSimpArgs false
/-- two places of one node are born alike -/
theorem canon_birth {P : List Nd} {b : Nat → Nat} {need : Nat → Prop} {out : List Nd} {pl : Nat → Nat} (hb : Births P b) (hs : Shut P need) (hu : Under P) (h : Canon P b need out pl)
    {k : Nat} (hk : k < P.length) (hn : need k) {nd : Nd} (ho : ∀ x, x ∈ nd.1 ∨ x ∈ nd.2 → x < P.length ∧ need x) (he : out[pl k]? = some (movd pl nd)) : b k = lastOf b nd := by
  have hc := births_bOf out (Canon.struct hb hs hu h).under
  rw [← Canon.births hb hs hu h hc k hk hn, hc _ _ he]
  exact lastOf_map b (bOf out) pl nd fun x hx => Canon.births hb hs hu h hc x (ho x hx).1 (ho x hx).2
/-- one day of the order under way: so many of the day's nodes have their places -/
structure DayIs (P : List Nd) (b : Nat → Nat) (n : Nat) (D : List Nat) (pl0 : Nat → Nat) (j : Nat) (out : List Nd) (pl : Nat → Nat) : Prop where
  canon : Canon P b (fun k => b k < n ∨ k ∈ D.take j) out pl
  same : ∀ k, b k < n → pl k = pl0 k
  last : ∀ j', j = j' + 1 → ∀ i, D[j']? = some i → out.getLast? = some (movd pl0 (P.getD i ([], [])))
/-- a day's nodes, in order -/
structure DayD (P : List Nd) (b : Nat → Nat) (n : Nat) (D : List Nat) (pl0 : Nat → Nat) : Prop where
  mem : ∀ k, k ∈ D ↔ k < P.length ∧ b k = n
  nodup : D.Nodup
  asc : D.Pairwise (fun a c => ltNd (movd pl0 (P.getD c ([], []))) (movd pl0 (P.getD a ([], []))) = false)
theorem getD_at {P : List Nd} {i : Nat} {nd : Nd} (h : P[i]? = some nd) : P.getD i ([], []) = nd := by
  rw [List.getD_eq_getElem?_getD, h]; rfl
theorem shut_day {P : List Nd} {b : Nat → Nat} {n j : Nat} {D : List Nat} {pl0 : Nat → Nat} (hb : Births P b) (hu : Under P) (hD : DayD P b n D pl0) : Shut P (fun k => b k < n ∨ k ∈ D.take j) := by
  intro k nd hk hn x hx
  have h1 : b x < b k := by rw [hb k nd hk]; exact lastOf_lt b nd x hx
  left
  rcases hn with h | h
  · omega
  · have := ((hD.mem k).1 (List.mem_of_mem_take h)).2
    omega
theorem DayIs.movd_eq {P : List Nd} {b : Nat → Nat} {n j : Nat} {D : List Nat} {pl0 pl : Nat → Nat} {out : List Nd} (hb : Births P b) (h : DayIs P b n D pl0 j out pl)
    {k : Nat} {nd : Nd} (hk : P[k]? = some nd) (hle : b k ≤ n) : movd pl nd = movd pl0 nd :=
  movd_congr _ _ _ fun x hx => h.same x (by have : b x < b k := by rw [hb k nd hk]; exact lastOf_lt b nd x hx
                                            omega)
theorem mem_take_succ {D : List Nat} {j i k : Nat} (h : D[j]? = some i) : k ∈ D.take (j + 1) ↔ k ∈ D.take j ∨ k = i := by
  rw [List.take_add_one, h]
  simp
/-- of the day's nodes that have places none is behind the next one -/
theorem day_le {P : List Nd} {b : Nat → Nat} {n j i k : Nat} {D : List Nat} {pl0 : Nat → Nat} (hD : DayD P b n D pl0) (hi : D[j]? = some i) (hk : k ∈ D.take j) :
    ltNd (movd pl0 (P.getD i ([], []))) (movd pl0 (P.getD k ([], []))) = false := by
  have h := hD.asc
  have hl := get_lt hi
  rw [← List.take_append_drop j D, List.pairwise_append] at h
  refine h.2.2 k hk i ?_
  rw [List.drop_eq_getElem_cons hl]
  rw [List.getElem?_eq_getElem hl] at hi
  injection hi with hi
  rw [hi]
  exact List.mem_cons_self
/-- the last one that has a place is no less than those ahead of it -/
theorem day_last {P : List Nd} {b : Nat → Nat} {n j i k : Nat} {D : List Nat} {pl0 : Nat → Nat} (hD : DayD P b n D pl0) (hi : D[j]? = some i) (hk : k ∈ D.take (j + 1)) :
    ltNd (movd pl0 (P.getD i ([], []))) (movd pl0 (P.getD k ([], []))) = false := by
  rcases (mem_take_succ hi).1 hk with h | h
  · exact day_le hD hi h
  · subst h; exact ltNd_irrefl _
/-- a node that stands there already -/
theorem day_old {P : List Nd} {b : Nat → Nat} {n j i : Nat} {D : List Nat} {pl0 pl : Nat → Nat} {out : List Nd} (hb : Births P b) (hu : Under P) (hD : DayD P b n D pl0) (h : DayIs P b n D pl0 j out pl) (hi : D[j]? = some i)
    (hl : out.getLast? = some (movd pl0 (P.getD i ([], [])))) : DayIs P b n D pl0 (j + 1) out (fun k => if k = i then out.length - 1 else pl k) := by
  have hiD := (hD.mem i).1 (List.mem_of_getElem? hi)
  obtain ⟨nd, hnd⟩ := lt_get hiD.1
  rw [getD_at hnd] at hl
  have hs := shut_day (j := j) hb hu hD
  have hx : out[out.length - 1]? = some (movd pl0 nd) := by rw [← hl, List.getLast?_eq_getElem?]
  have hlen : 0 < out.length := by have := get_lt hx; omega
  have hio : ∀ x, x ∈ nd.1 ∨ x ∈ nd.2 → x < P.length ∧ (b x < n ∨ x ∈ D.take j) := fun x hx' => by
    have h1 : b x < b i := by rw [hb i nd hnd]; exact lastOf_lt b nd x hx'
    have := hu i nd hnd x hx'
    exact ⟨by omega, Or.inl (by omega)⟩
  obtain ⟨k', hk', hn', hp'⟩ := h.canon.from' (out.length - 1) (by omega)
  have hmi := h.movd_eq hb hnd (by omega)
  have hbk : b k' = n := by
    rw [canon_birth hb hs hu h.canon hk' hn' hio (by rw [hp', hx, hmi]), ← hb i nd hnd]; exact hiD.2
  have hni : i ∉ D.take j := fun hc => by
    have h1 := hD.nodup
    rw [← List.take_append_drop j D, List.nodup_append] at h1
    refine h1.2.2 i hc i ?_ rfl
    have hl := get_lt hi
    rw [List.drop_eq_getElem_cons hl]
    rw [List.getElem?_eq_getElem hl] at hi
    injection hi with hi
    rw [hi]
    exact List.mem_cons_self
  have hne : ∀ k, (b k < n ∨ k ∈ D.take j) → k ≠ i := fun k hk e => by
    subst e
    rcases hk with hk | hk
    · omega
    · exact hni hk
  have hold : ∀ k, (b k < n ∨ k ∈ D.take j) → (if k = i then out.length - 1 else pl k) = pl k := fun k hk => if_neg (hne k hk)
  have hneed : ∀ k, (b k < n ∨ k ∈ D.take (j + 1)) ↔ ((b k < n ∨ k ∈ D.take j) ∨ k = i) := fun k => by rw [mem_take_succ hi, or_assoc]
  have hmv : ∀ k m, P[k]? = some m → b k ≤ n → movd (fun k => if k = i then out.length - 1 else pl k) m = movd pl m := fun k m hm hle =>
    movd_congr _ _ _ fun x hx => hold x (Or.inl (by have : b x < b k := by rw [hb k m hm]; exact lastOf_lt b m x hx
                                                    omega))
  have hle : ∀ k, (b k < n ∨ k ∈ D.take j) → b k ≤ n := fun k hk => by
    rcases hk with hk | hk
    · omega
    · have := ((hD.mem k).1 (List.mem_of_mem_take hk)).2; omega
  have hplt : ∀ k, k < P.length → (b k < n ∨ k ∈ D.take j) → pl k ≤ out.length - 1 := fun k hk hn => by have := h.canon.placed hk hn; omega
  have hday : ∀ k, (b k < n ∨ k ∈ D.take j) → b k = n → k ∈ D.take j := fun k hk he => by
    rcases hk with hk | hk
    · omega
    · exact hk
  have hnode : ∀ k, k ∈ D.take j → out[pl k]? = some (movd pl0 (P.getD k ([], []))) := fun k hk => by
    have hkD := (hD.mem k).1 (List.mem_of_mem_take hk)
    obtain ⟨m, hm⟩ := lt_get hkD.1
    rw [h.canon.node k m hm (Or.inr hk), h.movd_eq hb hm (by omega), getD_at hm]
  refine ⟨⟨fun k m hk hn => ?_, fun q hq => ?_, fun k q hk hq nk nq hlt => ?_, fun k q x y hk hq nk nq he hx' hy' hlt => ?_, fun k q hk hq nk nq he => ?_⟩, fun k hk => ?_, fun j' hj' i' hi' => ?_⟩
  · rcases (hneed k).1 hn with hn | hn
    · show out[if k = i then out.length - 1 else pl k]? = _
      rw [hold k hn, hmv k m hk (hle k hn)]
      exact h.canon.node k m hk hn
    · subst hn
      show out[if k = k then out.length - 1 else pl k]? = _
      rw [if_pos rfl, hx, hmv k m hk (by omega)]
      rw [hnd] at hk
      injection hk with hk
      rw [← hk, hmi]
  · obtain ⟨k, h1, h2, h3⟩ := h.canon.from' q hq
    exact ⟨k, h1, (hneed k).2 (Or.inl h2), by show (if k = i then out.length - 1 else pl k) = q; rw [hold k h2]; exact h3⟩
  · show (if k = i then out.length - 1 else pl k) < (if q = i then out.length - 1 else pl q)
    rcases (hneed k).1 nk with nk | nk <;> rcases (hneed q).1 nq with nq | nq
    · rw [hold k nk, hold q nq]; exact h.canon.born k q hk hq nk nq hlt
    · subst nq
      rw [hold k nk, if_pos rfl, ← hp']
      exact h.canon.born k k' hk hk' nk hn' (by omega)
    · subst nk
      have := hle q nq
      omega
    · subst nk; subst nq; omega
  · have hx2 : out[if k = i then out.length - 1 else pl k]? = some x := hx'
    have hy2 : out[if q = i then out.length - 1 else pl q]? = some y := hy'
    show (if k = i then out.length - 1 else pl k) < (if q = i then out.length - 1 else pl q)
    rcases (hneed k).1 nk with nk | nk <;> rcases (hneed q).1 nq with nq | nq
    · rw [hold k nk] at hx2 ⊢
      rw [hold q nq] at hy2 ⊢
      exact h.canon.ahead k q x y hk hq nk nq he hx2 hy2 hlt
    · subst nq
      rw [hold k nk] at hx2 ⊢
      rw [if_pos rfl] at hy2 ⊢
      rcases Nat.lt_or_ge (pl k) (out.length - 1) with h1 | h1
      · exact h1
      · have e : pl k = out.length - 1 := by have := hplt k hk nk; omega
        rw [e, hy2] at hx2
        injection hx2 with hx2
        subst hx2
        rw [ltNd_irrefl] at hlt; cases hlt
    · subst nk
      rw [if_pos rfl, hx] at hx2
      injection hx2 with hx2
      have hqd := hday q nq (by omega)
      rw [hold q nq, hnode q hqd] at hy2
      injection hy2 with hy2
      have := day_le hD hi hqd
      rw [getD_at hnd, hx2, hy2, hlt] at this
      cases this
    · subst nk; subst nq
      rw [if_pos rfl] at hx2 hy2
      rw [hx2] at hy2
      injection hy2 with hy2
      subst hy2
      rw [ltNd_irrefl] at hlt; cases hlt
  · have he2 : out[if k = i then out.length - 1 else pl k]? = out[if q = i then out.length - 1 else pl q]? := he
    show (if k = i then out.length - 1 else pl k) = (if q = i then out.length - 1 else pl q)
    rcases (hneed k).1 nk with nk | nk <;> rcases (hneed q).1 nq with nq | nq
    · rw [hold k nk, hold q nq] at he2 ⊢
      exact h.canon.once k q hk hq nk nq he2
    · subst nq
      rw [hold k nk, if_pos rfl] at he2 ⊢
      rw [← hp'] at he2 ⊢
      exact h.canon.once k k' hk hk' nk hn' he2
    · subst nk
      rw [hold q nq, if_pos rfl] at he2 ⊢
      rw [← hp'] at he2 ⊢
      exact h.canon.once k' q hk' hq hn' nq he2
    · subst nk; subst nq; rfl
  · show (if k = i then out.length - 1 else pl k) = pl0 k
    rw [if_neg (fun e => by subst e; omega)]
    exact h.same k hk
  · obtain rfl : j' = j := by omega
    rw [hi] at hi'
    injection hi' with hi'
    subst hi'
    rw [getD_at hnd]
    exact hl
/-- a node that is new -/
theorem day_new {P : List Nd} {b : Nat → Nat} {n j i : Nat} {D : List Nat} {pl0 pl : Nat → Nat} {out : List Nd} (hb : Births P b) (hu : Under P) (hD : DayD P b n D pl0) (h : DayIs P b n D pl0 j out pl) (hi : D[j]? = some i)
    (hl : out.getLast? ≠ some (movd pl0 (P.getD i ([], [])))) : DayIs P b n D pl0 (j + 1) (out ++ [movd pl0 (P.getD i ([], []))]) (fun k => if k = i then out.length else pl k) := by
  have hiD := (hD.mem i).1 (List.mem_of_getElem? hi)
  obtain ⟨nd, hnd⟩ := lt_get hiD.1
  rw [getD_at hnd] at hl ⊢
  have hs := shut_day (j := j) hb hu hD
  have hio : ∀ x, x ∈ nd.1 ∨ x ∈ nd.2 → x < P.length ∧ (b x < n ∨ x ∈ D.take j) := fun x hx' => by
    have h1 : b x < b i := by rw [hb i nd hnd]; exact lastOf_lt b nd x hx'
    have := hu i nd hnd x hx'
    exact ⟨by omega, Or.inl (by omega)⟩
  have hmi := h.movd_eq hb hnd (by omega)
  have hni : i ∉ D.take j := fun hc => by
    have h1 := hD.nodup
    rw [← List.take_append_drop j D, List.nodup_append] at h1
    refine h1.2.2 i hc i ?_ rfl
    have hl := get_lt hi
    rw [List.drop_eq_getElem_cons hl]
    rw [List.getElem?_eq_getElem hl] at hi
    injection hi with hi
    rw [hi]
    exact List.mem_cons_self
  have hne : ∀ k, (b k < n ∨ k ∈ D.take j) → k ≠ i := fun k hk e => by
    subst e
    rcases hk with hk | hk
    · omega
    · exact hni hk
  have hold : ∀ k, (b k < n ∨ k ∈ D.take j) → (if k = i then out.length else pl k) = pl k := fun k hk => if_neg (hne k hk)
  have hneed : ∀ k, (b k < n ∨ k ∈ D.take (j + 1)) ↔ ((b k < n ∨ k ∈ D.take j) ∨ k = i) := fun k => by rw [mem_take_succ hi, or_assoc]
  have hmv : ∀ k m, P[k]? = some m → b k ≤ n → movd (fun k => if k = i then out.length else pl k) m = movd pl m := fun k m hm hle =>
    movd_congr _ _ _ fun x hx => hold x (Or.inl (by have : b x < b k := by rw [hb k m hm]; exact lastOf_lt b m x hx
                                                    omega))
  have hle : ∀ k, (b k < n ∨ k ∈ D.take j) → b k ≤ n := fun k hk => by
    rcases hk with hk | hk
    · omega
    · have := ((hD.mem k).1 (List.mem_of_mem_take hk)).2; omega
  have hplt : ∀ k, k < P.length → (b k < n ∨ k ∈ D.take j) → pl k < out.length := fun k hk hn => h.canon.placed hk hn
  have hday : ∀ k, (b k < n ∨ k ∈ D.take j) → b k = n → k ∈ D.take j := fun k hk he => by
    rcases hk with hk | hk
    · omega
    · exact hk
  have hnode : ∀ k, k ∈ D.take j → out[pl k]? = some (movd pl0 (P.getD k ([], []))) := fun k hk => by
    have hkD := (hD.mem k).1 (List.mem_of_mem_take hk)
    obtain ⟨m, hm⟩ := lt_get hkD.1
    rw [h.canon.node k m hm (Or.inr hk), h.movd_eq hb hm (by omega), getD_at hm]
  have happ : ∀ k, k < P.length → (b k < n ∨ k ∈ D.take j) → (out ++ [movd pl0 nd])[pl k]? = out[pl k]? := fun k hk hn => List.getElem?_append_left (hplt k hk hn)
  have htop : (out ++ [movd pl0 nd])[out.length]? = some (movd pl0 nd) := by simp
  -- none of those that have places is the same node
  have hfresh : ∀ k, k < P.length → (b k < n ∨ k ∈ D.take j) → out[pl k]? ≠ some (movd pl0 nd) := fun k hk hn he => by
    have hbk : b k = n := by
      rw [canon_birth hb hs hu h.canon hk hn hio (by rw [he, hmi]), ← hb i nd hnd]; exact hiD.2
    have hkd := hday k hn hbk
    have hke := hnode k hkd
    rw [he] at hke
    injection hke with hke
    cases j with
    | zero => simp at hkd
    | succ j' =>
      obtain ⟨i', hi'⟩ := lt_get (l := D) (i := j') (by have := get_lt hi; omega)
      have hlast := h.last j' rfl i' hi'
      have h1 := day_last hD hi' hkd
      have h2 := day_le hD hi (k := i') ((mem_take_succ hi').2 (Or.inr rfl))
      rw [getD_at hnd] at h2
      rw [← hke] at h1
      rcases ltNd_tri (movd pl0 (P.getD i' ([], []))) (movd pl0 nd) with ht | ht | ht
      · rw [ht] at h1; cases h1
      · rw [ht] at hlast; exact hl hlast
      · rw [ht] at h2; cases h2
  refine ⟨⟨fun k m hk hn => ?_, fun q hq => ?_, fun k q hk hq nk nq hlt => ?_, fun k q x y hk hq nk nq he hx' hy' hlt => ?_, fun k q hk hq nk nq he => ?_⟩, fun k hk => ?_, fun j' hj' i' hi' => ?_⟩
  · rcases (hneed k).1 hn with hn | hn
    · show (out ++ [movd pl0 nd])[if k = i then out.length else pl k]? = _
      rw [hold k hn, hmv k m hk (hle k hn), happ k (get_lt hk) hn]
      exact h.canon.node k m hk hn
    · subst hn
      show (out ++ [movd pl0 nd])[if k = k then out.length else pl k]? = _
      rw [if_pos rfl, htop, hmv k m hk (by omega)]
      rw [hnd] at hk
      injection hk with hk
      rw [← hk, hmi]
  · rw [List.length_append, List.length_singleton] at hq
    rcases Nat.lt_or_ge q out.length with hq | hq'
    · obtain ⟨k, h1, h2, h3⟩ := h.canon.from' q hq
      exact ⟨k, h1, (hneed k).2 (Or.inl h2), by show (if k = i then out.length else pl k) = q; rw [hold k h2]; exact h3⟩
    · exact ⟨i, hiD.1, (hneed i).2 (Or.inr rfl), by show (if i = i then out.length else pl i) = q; rw [if_pos rfl]; omega⟩
  · show (if k = i then out.length else pl k) < (if q = i then out.length else pl q)
    rcases (hneed k).1 nk with nk | nk <;> rcases (hneed q).1 nq with nq | nq
    · rw [hold k nk, hold q nq]; exact h.canon.born k q hk hq nk nq hlt
    · subst nq
      rw [hold k nk, if_pos rfl]
      exact hplt k hk nk
    · subst nk
      have := hle q nq
      omega
    · subst nk; subst nq; omega
  · have hx2 : (out ++ [movd pl0 nd])[if k = i then out.length else pl k]? = some x := hx'
    have hy2 : (out ++ [movd pl0 nd])[if q = i then out.length else pl q]? = some y := hy'
    show (if k = i then out.length else pl k) < (if q = i then out.length else pl q)
    rcases (hneed k).1 nk with nk | nk <;> rcases (hneed q).1 nq with nq | nq
    · rw [hold k nk] at hx2 ⊢
      rw [hold q nq] at hy2 ⊢
      rw [happ k hk nk] at hx2
      rw [happ q hq nq] at hy2
      exact h.canon.ahead k q x y hk hq nk nq he hx2 hy2 hlt
    · subst nq
      rw [hold k nk, if_pos rfl]
      exact hplt k hk nk
    · subst nk
      rw [if_pos rfl, htop] at hx2
      injection hx2 with hx2
      have hqd := hday q nq (by omega)
      rw [hold q nq, happ q hq nq, hnode q hqd] at hy2
      injection hy2 with hy2
      have := day_le hD hi hqd
      rw [getD_at hnd, hx2, hy2, hlt] at this
      cases this
    · subst nk; subst nq
      rw [if_pos rfl] at hx2 hy2
      rw [hx2] at hy2
      injection hy2 with hy2
      subst hy2
      rw [ltNd_irrefl] at hlt; cases hlt
  · have he2 : (out ++ [movd pl0 nd])[if k = i then out.length else pl k]? = (out ++ [movd pl0 nd])[if q = i then out.length else pl q]? := he
    show (if k = i then out.length else pl k) = (if q = i then out.length else pl q)
    rcases (hneed k).1 nk with nk | nk <;> rcases (hneed q).1 nq with nq | nq
    · rw [hold k nk, hold q nq] at he2 ⊢
      rw [happ k hk nk, happ q hq nq] at he2
      exact h.canon.once k q hk hq nk nq he2
    · subst nq
      rw [hold k nk, if_pos rfl, htop, happ k hk nk] at he2
      exact absurd he2 (hfresh k hk nk)
    · subst nk
      rw [hold q nq, if_pos rfl, htop, happ q hq nq] at he2
      exact absurd he2.symm (hfresh q hq nq)
    · subst nk; subst nq; rfl
  · show (if k = i then out.length else pl k) = pl0 k
    rw [if_neg (fun e => by subst e; omega)]
    exact h.same k hk
  · obtain rfl : j' = j := by omega
    rw [hi] at hi'
    injection hi' with hi'
    subst hi'
    rw [getD_at hnd, List.getLast?_append]
    rfl
theorem day_start {P : List Nd} {b : Nat → Nat} {n : Nat} {D : List Nat} {pl : Nat → Nat} {out : List Nd} (h : Canon P b (fun k => b k < n) out pl) : DayIs P b n D pl 0 out pl :=
  ⟨canon_iff h fun k _ => by simp, fun k _ => rfl, fun j' hj' => by omega⟩
theorem day_end {P : List Nd} {b : Nat → Nat} {n : Nat} {D : List Nat} {pl0 pl : Nat → Nat} {out : List Nd} (hD : DayD P b n D pl0) (h : DayIs P b n D pl0 D.length out pl) : Canon P b (fun k => b k < n + 1) out pl :=
  canon_iff h.canon fun k hk => by
    rw [List.take_length, hD.mem k]
    constructor
    · rintro (h | h) <;> omega
    · intro h
      rcases Nat.lt_or_ge (b k) n with h1 | h1
      · exact Or.inl h1
      · exact Or.inr ⟨hk, by omega⟩
theorem days_none (P : List Nd) (b pl : Nat → Nat) : Canon P b (fun k => b k < 0) [] pl :=
  ⟨fun k nd _ h => by omega, fun i hi => by simp at hi, fun k j _ _ h => by omega, fun k j x y _ _ h => by omega, fun k j _ _ h => by omega⟩
theorem days_all {P : List Nd} {b pl : Nat → Nat} {out : List Nd} {n : Nat} (h : Canon P b (fun k => b k < n) out pl) (hn : ∀ k, k < P.length → b k < n) : Canon P b (fun _ => True) out pl :=
  canon_iff h fun k hk => ⟨fun _ => trivial, fun _ => hn k hk⟩

end Go.Proofs.Ytabfdaofikccmaa
