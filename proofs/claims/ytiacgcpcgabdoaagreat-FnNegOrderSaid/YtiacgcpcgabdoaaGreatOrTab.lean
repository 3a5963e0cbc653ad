/- Tables of answers: the model's, of pairs of nodes, and the program's, of pairs of nodes and who moves. -/
import Derived.Test.YtiacgcpcgabdoaaGreatOrMath
namespace Go.Proofs.YtiacgcpcgabdoaaGreat
set_option linter.unusedVariables false
set_option linter.unusedSimpArgs false

theorem place_inj {n x y x' y' : Nat} (hy : y < n) (hy' : y' < n) (h : x * n + y = x' * n + y') : x = x' ∧ y = y' := by
  have h1 : (x * n + y) / n = x := by rw [Nat.mul_comm, Nat.mul_add_div (by omega), Nat.div_eq_of_lt hy]; rfl
  have h2 : (x' * n + y') / n = x' := by rw [Nat.mul_comm, Nat.mul_add_div (by omega), Nat.div_eq_of_lt hy']; rfl
  have h3 : x = x' := by rw [← h1, ← h2, h]
  subst h3
  exact ⟨rfl, by omega⟩

theorem place_lt {m n x y : Nat} (hx : x < m) (hy : y < n) : x * n + y < m * n := by
  have h1 : x * n + n ≤ m * n := by
    rw [← Nat.succ_mul]
    exact Nat.mul_le_mul_right n hx
  omega

/-- the model's entry of a pair -/
def geC (C : List Nd) (x y : Nat) : Int := if geF C x y then 1 else 2

/-- all pairs of lesser sums stand as they are, or aren't known -/
def Rt (C : List Nd) (n : Nat) (cs : List Int) (s : Nat) : Prop := cs.length = n * n ∧ ∀ x y, x < n → y < n → x + y < s → cs[x * n + y]? = some 0 ∨ cs[x * n + y]? = some (geC C x y)

/-- all pairs of no lesser sums stand as they did -/
def Sm (n : Nat) (cs cs' : List Int) (s : Nat) : Prop := ∀ x y, x < n → y < n → s ≤ x + y → cs'[x * n + y]? = cs[x * n + y]?

theorem Sm.refl (n : Nat) (cs : List Int) (s : Nat) : Sm n cs cs s := fun _ _ _ _ _ => rfl
theorem Sm.trans {n s : Nat} {a b c : List Int} (h : Sm n a b s) (g : Sm n b c s) : Sm n a c s := fun x y hx hy hs => (g x y hx hy hs).trans (h x y hx hy hs)
theorem Sm.mono {n s s' : Nat} {a b : List Int} (h : Sm n a b s) (hs : s ≤ s') : Sm n a b s' := fun x y hx hy h' => h x y hx hy (by omega)
theorem Rt.mono {C : List Nd} {n s s' : Nat} {cs : List Int} (h : Rt C n cs s) (hs : s' ≤ s) : Rt C n cs s' := ⟨h.1, fun x y hx hy h' => h.2 x y hx hy (by omega)⟩

/-- behind a question of a lesser sum -/
theorem Rt.behind {C : List Nd} {n s t : Nat} {cs cs' : List Int} (h : Rt C n cs s) (ht : t ≤ s) (h' : Rt C n cs' t) (hs : Sm n cs cs' t) : Rt C n cs' s := ⟨h'.1, fun x y hx hy hxy => by
  rcases Nat.lt_or_ge (x + y) t with h1 | h1
  · exact h'.2 x y hx hy h1
  · rw [hs x y hx hy h1]
    exact h.2 x y hx hy hxy⟩

theorem Rt.zero (C : List Nd) (n s : Nat) : Rt C n (List.replicate (n * n) 0) s := ⟨by simp, fun x y hx hy _ => Or.inl (by rw [List.getElem?_replicate, if_pos (place_lt hx hy)])⟩

/-- a pair's entry is told to be under way -/
theorem Rt.start {C : List Nd} {n : Nat} {cs : List Int} {x y : Nat} (h : Rt C n cs (x + y + 1)) (hx : x < n) (hy : y < n) (v : Int) : Rt C n (cs.set (x * n + y) v) (x + y) ∧ Sm n cs (cs.set (x * n + y) v) (x + y + 1) ∧ (cs.set (x * n + y) v)[x * n + y]? = some v := by
  have ho : ∀ x' y', y' < n → x' + y' ≠ x + y → (cs.set (x * n + y) v)[x' * n + y']? = cs[x' * n + y']? := fun x' y' hy' hne => by
    rw [List.getElem?_set_ne (fun e => hne (by have := place_inj hy hy' e; omega))]
  refine ⟨⟨by rw [List.length_set]; exact h.1, fun x' y' hx' hy' hs => ?_⟩, fun x' y' hx' hy' hs => ho x' y' hy' (by omega), ?_⟩
  · rw [ho x' y' hy' (by omega)]
    exact h.2 x' y' hx' hy' (by omega)
  · rw [List.getElem?_set_self (by rw [h.1]; exact place_lt hx hy)]

/-- a pair's entry is known -/
theorem Rt.done {C : List Nd} {n : Nat} {cs cs1 cs2 : List Int} {x y : Nat} (h : Rt C n cs (x + y + 1)) (hx : x < n) (hy : y < n) (h1 : cs1 = cs.set (x * n + y) 2) (h2 : Rt C n cs2 (x + y)) (hs : Sm n cs1 cs2 (x + y)) :
    (geF C x y = true → Rt C n (cs2.set (x * n + y) 1) (x + y + 1) ∧ Sm n cs (cs2.set (x * n + y) 1) (x + y + 1)) ∧ (geF C x y = false → Rt C n cs2 (x + y + 1) ∧ Sm n cs cs2 (x + y + 1)) ∧ cs2[x * n + y]? = some 2 := by
  have hp : cs2[x * n + y]? = some 2 := by
    rw [hs x y hx hy (Nat.le_refl _), h1, List.getElem?_set_self (by rw [h.1]; exact place_lt hx hy)]
  have ho : ∀ x' y', x' < n → y' < n → x + y ≤ x' + y' → ¬ (x' = x ∧ y' = y) → cs2[x' * n + y']? = cs[x' * n + y']? := fun x' y' hx' hy' hs' hne => by
    rw [hs x' y' hx' hy' hs', h1, List.getElem?_set_ne (fun e => hne (by have := place_inj hy hy' e; omega))]
  have hset : ∀ v x' y', y' < n → ¬ (x' = x ∧ y' = y) → (cs2.set (x * n + y) v)[x' * n + y']? = cs2[x' * n + y']? := fun v x' y' hy' hne => by
    rw [List.getElem?_set_ne (fun e => hne (by have := place_inj hy hy' e; omega))]
  have hl := h2.1
  refine ⟨fun hg => ⟨⟨by rw [List.length_set]; exact hl, fun x' y' hx' hy' hs' => ?_⟩, fun x' y' hx' hy' hs' => ?_⟩, fun hg => ⟨⟨hl, fun x' y' hx' hy' hs' => ?_⟩, fun x' y' hx' hy' hs' => ?_⟩, hp⟩
  · by_cases he : x' = x ∧ y' = y
    · obtain ⟨rfl, rfl⟩ := he
      right
      rw [List.getElem?_set_self (by rw [hl]; exact place_lt hx hy)]
      unfold geC
      rw [hg]; rfl
    · rw [hset 1 x' y' hy' he]
      rcases Nat.lt_or_ge (x' + y') (x + y) with h3 | h3
      · exact h2.2 x' y' hx' hy' h3
      · rw [ho x' y' hx' hy' h3 he]
        exact h.2 x' y' hx' hy' hs'
  · have he : ¬ (x' = x ∧ y' = y) := by omega
    rw [hset 1 x' y' hy' he]
    exact ho x' y' hx' hy' (by omega) he
  · by_cases he : x' = x ∧ y' = y
    · obtain ⟨rfl, rfl⟩ := he
      right
      rw [hp]
      unfold geC
      rw [hg]; rfl
    · rcases Nat.lt_or_ge (x' + y') (x + y) with h3 | h3
      · exact h2.2 x' y' hx' hy' h3
      · rw [ho x' y' hx' hy' h3 he]
        exact h.2 x' y' hx' hy' hs'
  · have he : ¬ (x' = x ∧ y' = y) := by omega
    exact ho x' y' hx' hy' (by omega) he

def ofB (b : Bool) : Nat := if b then 1 else 0
/-- the place of a pair and who moves -/
def plc (m i j : Nat) (left : Bool) : Nat := 2 * (i * m + j) + ofB left

theorem ofB_lt (b : Bool) : ofB b < 2 := by cases b <;> decide
theorem plc_inj {m i j i' j' : Nat} {l l' : Bool} (hj : j < m) (hj' : j' < m) (h : plc m i j l = plc m i' j' l') : i = i' ∧ j = j' ∧ l = l' := by
  unfold plc at h
  have h1 := ofB_lt l
  have h2 := ofB_lt l'
  have h3 : i * m + j = i' * m + j' := by omega
  have h4 : ofB l = ofB l' := by omega
  refine ⟨(place_inj hj hj' h3).1, (place_inj hj hj' h3).2, ?_⟩
  cases l <;> cases l' <;> first | rfl | (exact absurd h4 (by decide))

theorem plc_lt {n m i j : Nat} {l : Bool} (hi : i < n) (hj : j < m) : plc m i j l < 2 * (n * m) := by
  have h1 := place_lt hi hj
  have h2 := ofB_lt l
  unfold plc
  omega

/-- the program's entry -/
def wiC (A B : List Nd) (i j : Nat) (left : Bool) : Int := if winF A B i j left then 1 else 2

/-- all entries are right, or aren't known -/
def Wn (A B : List Nd) (cs : List Int) : Prop := cs.length = 2 * (A.length * B.length) ∧ ∀ i j l, i < A.length → j < B.length → cs[plc B.length i j l]? = some 0 ∨ cs[plc B.length i j l]? = some (wiC A B i j l)

theorem Wn.zero (A B : List Nd) : Wn A B (List.replicate (2 * (A.length * B.length)) 0) := ⟨by simp, fun i j l hi hj => Or.inl (by rw [List.getElem?_replicate, if_pos (plc_lt hi hj)])⟩

theorem Wn.set {A B : List Nd} {cs : List Int} (h : Wn A B cs) {i j : Nat} {l : Bool} (hi : i < A.length) (hj : j < B.length) : Wn A B (cs.set (plc B.length i j l) (wiC A B i j l)) := ⟨by rw [List.length_set]; exact h.1, fun i' j' l' hi' hj' => by
  by_cases he : plc B.length i j l = plc B.length i' j' l'
  · obtain ⟨rfl, rfl, rfl⟩ := plc_inj hj hj' he
    right
    rw [List.getElem?_set_self (by rw [h.1]; exact plc_lt hi hj)]
  · rw [List.getElem?_set_ne he]
    exact h.2 i' j' l' hi' hj'⟩

theorem any_take_false {α : Type} (l : List α) (p : α → Bool) (k : Nat) (x : α) (hx : l[k]? = some x) (h : (l.take k).any p = false) (hp : p x = false) : (l.take (k + 1)).any p = false := by
  rw [List.take_add_one, hx, List.any_append, h]
  simp [hp]

theorem any_at {α : Type} (l : List α) (p : α → Bool) (k : Nat) (x : α) (hx : l[k]? = some x) (hp : p x = true) : l.any p = true := List.any_eq_true.2 ⟨x, List.mem_of_getElem? hx, hp⟩

end Go.Proofs.YtiacgcpcgabdoaaGreat
