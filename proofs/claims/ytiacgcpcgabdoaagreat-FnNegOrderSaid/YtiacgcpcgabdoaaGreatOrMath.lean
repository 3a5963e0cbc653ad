/- Who wins, and what is at least what: the program's way and the model's. -/
import Derived.Test.YtiacgcpcgabdoaaGreatFmGood
namespace Go.Proofs.YtiacgcpcgabdoaaGreat
set_option linter.unusedVariables false
set_option linter.unusedSimpArgs false

def nodeD (P : List Nd) (i : Nat) : Nd := P.getD i ([], [])
/-- a player's options -/
def optsD (P : List Nd) (i : Nat) (left : Bool) : List Nat := if left then (nodeD P i).1 else (nodeD P i).2

theorem nodeD_at {P : List Nd} {i : Nat} {nd : Nd} (h : P[i]? = some nd) : nodeD P i = nd := by unfold nodeD; rw [List.getD_eq_getElem?_getD, h]; rfl

theorem optsD_lt {P : List Nd} (hu : Under P) {i x : Nat} {left : Bool} (h : x ∈ optsD P i left) : x < i := by
  cases hn : P[i]? with
  | none =>
    have : nodeD P i = ([], []) := by unfold nodeD; rw [List.getD_eq_getElem?_getD, hn]; rfl
    unfold optsD at h
    rw [this] at h
    cases left <;> simp at h
  | some nd =>
    unfold optsD at h
    rw [nodeD_at hn] at h
    cases left with
    | true => exact hu i nd hn x (Or.inl (by simpa using h))
    | false => exact hu i nd hn x (Or.inr (by simpa using h))

theorem any_congr {α : Type} (l : List α) (p q : α → Bool) (h : ∀ x ∈ l, p x = q x) : l.any p = l.any q := by
  induction l with
  | nil => rfl
  | cons x l ih => simp only [List.any_cons, h x List.mem_cons_self, ih (fun y hy => h y (List.mem_cons_of_mem _ hy))]

/-- who moves first at a difference of two games wins, with some breath -/
def winN (A B : List Nd) : Nat → Nat → Nat → Bool → Bool
  | 0, _, _, _ => false
  | n + 1, i, j, left => (optsD A i left).any (fun o => !winN A B n o j (!left)) || (optsD B j (!left)).any (fun o => !winN A B n i o (!left))

theorem winN_stable (A B : List Nd) (hA : Under A) (hB : Under B) : ∀ n m i j left, i + j < n → i + j < m → winN A B n i j left = winN A B m i j left
  | 0, _, _, _, _, h, _ => by omega
  | _ + 1, 0, _, _, _, _, h => by omega
  | n + 1, m + 1, i, j, left, h1, h2 => by
    unfold winN
    rw [any_congr (optsD A i left) _ (fun o => !winN A B m o j (!left)) (fun o ho => by have := optsD_lt hA ho; rw [winN_stable A B hA hB n m o j (!left) (by omega) (by omega)]),
      any_congr (optsD B j (!left)) _ (fun o => !winN A B m i o (!left)) (fun o ho => by have := optsD_lt hB ho; rw [winN_stable A B hA hB n m i o (!left) (by omega) (by omega)])]

/-- WHO MOVES FIRST WINS -/
def winF (A B : List Nd) (i j : Nat) (left : Bool) : Bool := winN A B (i + j + 1) i j left

theorem winF_eq (A B : List Nd) (hA : Under A) (hB : Under B) (i j : Nat) (left : Bool) :
    winF A B i j left = ((optsD A i left).any (fun o => !winF A B o j (!left)) || (optsD B j (!left)).any (fun o => !winF A B i o (!left))) := by
  have h : winF A B i j left = ((optsD A i left).any (fun o => !winN A B (i + j) o j (!left)) || (optsD B j (!left)).any (fun o => !winN A B (i + j) i o (!left))) := rfl
  rw [h]
  unfold winF
  rw [any_congr (optsD A i left) _ (fun o => !winN A B (o + j + 1) o j (!left)) (fun o ho => by have := optsD_lt hA ho; rw [winN_stable A B hA hB (i + j) (o + j + 1) o j (!left) (by omega) (by omega)]),
    any_congr (optsD B j (!left)) _ (fun o => !winN A B (i + o + 1) i o (!left)) (fun o ho => by have := optsD_lt hB ho; rw [winN_stable A B hA hB (i + j) (i + o + 1) i o (!left) (by omega) (by omega)])]

/-- one node of a book is at least another one, with some breath -/
def geN (C : List Nd) : Nat → Nat → Nat → Bool
  | 0, _, _ => false
  | n + 1, x, y => !((nodeD C x).2.any (fun r => geN C n y r) || (nodeD C y).1.any (fun l => geN C n l x))

theorem geN_stable (C : List Nd) (hC : Under C) : ∀ n m x y, x + y < n → x + y < m → geN C n x y = geN C m x y
  | 0, _, _, _, h, _ => by omega
  | _ + 1, 0, _, _, _, h => by omega
  | n + 1, m + 1, x, y, h1, h2 => by
    unfold geN
    rw [any_congr (nodeD C x).2 _ (fun r => geN C m y r) (fun o ho => by have := optsD_lt (P := C) (left := false) hC ho; rw [geN_stable C hC n m y o (by omega) (by omega)]),
      any_congr (nodeD C y).1 _ (fun l => geN C m l x) (fun o ho => by have := optsD_lt (P := C) (left := true) hC ho; rw [geN_stable C hC n m o x (by omega) (by omega)])]

/-- ONE NODE OF A BOOK IS AT LEAST ANOTHER ONE -/
def geF (C : List Nd) (x y : Nat) : Bool := geN C (x + y + 1) x y

theorem geF_eq (C : List Nd) (hC : Under C) (x y : Nat) : geF C x y = !((nodeD C x).2.any (fun r => geF C y r) || (nodeD C y).1.any (fun l => geF C l x)) := by
  have h : geF C x y = !((nodeD C x).2.any (fun r => geN C (x + y) y r) || (nodeD C y).1.any (fun l => geN C (x + y) l x)) := rfl
  rw [h]
  unfold geF
  rw [any_congr (nodeD C x).2 _ (fun r => geN C (y + r + 1) y r) (fun o ho => by have := optsD_lt (P := C) (left := false) hC ho; rw [geN_stable C hC (x + y) (y + o + 1) y o (by omega) (by omega)]),
    any_congr (nodeD C y).1 _ (fun l => geN C (l + x + 1) l x) (fun o ho => by have := optsD_lt (P := C) (left := true) hC ho; rw [geN_stable C hC (x + y) (o + x + 1) o x (by omega) (by omega)])]

theorem any_sortd (l : List Nat) (f : Nat → Nat) (p : Nat → Bool) : (sortd (l.map f)).any p = l.any (fun x => p (f x)) := by
  rw [Bool.eq_iff_iff, List.any_eq_true, List.any_eq_true]
  constructor
  · rintro ⟨y, hy, h⟩
    rw [mem_sortd, List.mem_map] at hy
    obtain ⟨x, hx, rfl⟩ := hy
    exact ⟨x, hx, h⟩
  · rintro ⟨x, hx, h⟩
    exact ⟨f x, by rw [mem_sortd]; exact List.mem_map.2 ⟨x, hx, rfl⟩, h⟩

/-- THE PROGRAM'S WAY IS THE MODEL'S: play on the difference of two games tells which is at least which -/
theorem win_ge (A B C : List Nd) (la lb : Nat → Nat) (hA : Under A) (hB : Under B) (hC : Under C)
    (ha : ∀ i nd, A[i]? = some nd → C[la i]? = some (movd la nd)) (hb : ∀ i nd, B[i]? = some nd → C[lb i]? = some (movd lb nd)) :
    ∀ n i j, i + j < n → i < A.length → j < B.length → (!winF A B i j false) = geF C (la i) (lb j) ∧ (!winF A B i j true) = geF C (lb j) (la i)
  | 0, _, _, h, _, _ => by omega
  | n + 1, i, j, h, hi, hj => by
    obtain ⟨x, hx⟩ := lt_get hi
    obtain ⟨y, hy⟩ := lt_get hj
    have ux := hA i x hx
    have uy := hB j y hy
    have cx := nodeD_at (ha i x hx)
    have cy := nodeD_at (hb j y hy)
    have nx := nodeD_at hx
    have ny := nodeD_at hy
    have I1 : ∀ o, o < i → (!winF A B o j false) = geF C (la o) (lb j) ∧ (!winF A B o j true) = geF C (lb j) (la o) := fun o ho => win_ge A B C la lb hA hB hC ha hb n o j (by omega) (by omega) hj
    have I2 : ∀ o, o < j → (!winF A B i o false) = geF C (la i) (lb o) ∧ (!winF A B i o true) = geF C (lb o) (la i) := fun o ho => win_ge A B C la lb hA hB hC ha hb n i o (by omega) hi (by omega)
    refine ⟨?_, ?_⟩
    · rw [winF_eq A B hA hB i j false, geF_eq C hC, cx, cy]
      unfold optsD movd
      rw [nx, ny]
      simp only [any_sortd, Bool.false_eq_true, if_false, Bool.not_false, if_true]
      rw [any_congr x.2 _ (fun o => geF C (lb j) (la o)) (fun o ho => (I1 o (ux o (Or.inr ho))).2), any_congr y.1 _ (fun o => geF C (lb o) (la i)) (fun o ho => (I2 o (uy o (Or.inl ho))).2)]
    · rw [winF_eq A B hA hB i j true, geF_eq C hC, cx, cy]
      unfold optsD movd
      rw [nx, ny]
      simp only [any_sortd, Bool.false_eq_true, if_false, Bool.not_true, if_true]
      rw [any_congr x.1 _ (fun o => geF C (la o) (lb j)) (fun o ho => (I1 o (ux o (Or.inl ho))).1), any_congr y.2 _ (fun o => geF C (la i) (lb o)) (fun o ho => (I2 o (uy o (Or.inr ho))).1), Bool.or_comm]

/-- who wins a game alone: against nothing -/
def soloF (A : List Nd) (i : Nat) (left : Bool) : Bool := winF A [([], [])] i 0 left

theorem under_zero : Under [([], [])] := fun k nd hk x hx => by
  match k, hk with
  | 0, hk => simp at hk; subst hk; simp at hx

theorem soloF_eq (A : List Nd) (hA : Under A) (i : Nat) (left : Bool) : soloF A i left = (optsD A i left).any (fun o => !soloF A o (!left)) := by
  have h := winF_eq A [([], [])] hA under_zero i 0 left
  have h2 : optsD [([], [])] 0 (!left) = [] := by cases left <;> rfl
  rw [h2] at h
  simpa [soloF] using h

/-- the model's two lists -/
def winsF (A : List Nd) : List Bool × List Bool := A.foldl (fun s nd => (s.1 ++ [nd.1.any (fun x => !s.2.getD x false)], s.2 ++ [nd.2.any (fun x => !s.1.getD x false)])) ([], [])

theorem winsF_snoc (A : List Nd) (nd : Nd) : winsF (A ++ [nd]) = ((winsF A).1 ++ [nd.1.any (fun x => !(winsF A).2.getD x false)], (winsF A).2 ++ [nd.2.any (fun x => !(winsF A).1.getD x false)]) := by
  simp [winsF, List.foldl_append]

theorem winsF_is (A : List Nd) (hA : Under A) : ∀ k, k ≤ A.length → (winsF (A.take k)).1.length = k ∧ (winsF (A.take k)).2.length = k ∧ ∀ i, i < k → (winsF (A.take k)).1.getD i false = soloF A i true ∧ (winsF (A.take k)).2.getD i false = soloF A i false
  | 0, _ => ⟨by simp [winsF], by simp [winsF], fun i hi => by omega⟩
  | k + 1, hk => by
    obtain ⟨h1, h2, h3⟩ := winsF_is A hA k (by omega)
    obtain ⟨nd, hnd⟩ := lt_get (l := A) (i := k) (by omega)
    have hu := hA k nd hnd
    have e : A.take (k + 1) = A.take k ++ [nd] := by
      rw [List.take_succ_eq_append_getElem (by omega)]
      rw [List.getElem?_eq_getElem (by omega)] at hnd
      injection hnd with hnd
      rw [hnd]
    rw [e, winsF_snoc]
    refine ⟨by simp [h1], by simp [h2], fun i hi => ?_⟩
    rcases Nat.lt_or_ge i k with hlt | hge
    · have g1 : ((winsF (A.take k)).1 ++ [nd.1.any (fun x => !(winsF (A.take k)).2.getD x false)]).getD i false = (winsF (A.take k)).1.getD i false := by
        rw [List.getD_eq_getElem?_getD, List.getElem?_append_left (by omega), ← List.getD_eq_getElem?_getD]
      have g2 : ((winsF (A.take k)).2 ++ [nd.2.any (fun x => !(winsF (A.take k)).1.getD x false)]).getD i false = (winsF (A.take k)).2.getD i false := by
        rw [List.getD_eq_getElem?_getD, List.getElem?_append_left (by omega), ← List.getD_eq_getElem?_getD]
      rw [g1, g2]
      exact h3 i hlt
    · have hik : i = k := by omega
      subst hik
      have g1 : ((winsF (A.take i)).1 ++ [nd.1.any (fun x => !(winsF (A.take i)).2.getD x false)]).getD i false = nd.1.any (fun x => !(winsF (A.take i)).2.getD x false) := by
        rw [List.getD_eq_getElem?_getD, List.getElem?_append_right (by omega), h1]; simp
      have g2 : ((winsF (A.take i)).2 ++ [nd.2.any (fun x => !(winsF (A.take i)).1.getD x false)]).getD i false = nd.2.any (fun x => !(winsF (A.take i)).1.getD x false) := by
        rw [List.getD_eq_getElem?_getD, List.getElem?_append_right (by omega), h2]; simp
      rw [g1, g2, soloF_eq A hA i true, soloF_eq A hA i false]
      unfold optsD
      rw [nodeD_at hnd]
      simp only [Bool.false_eq_true, if_false, if_true, Bool.not_true, Bool.not_false]
      exact ⟨any_congr _ _ _ (fun x hx => by rw [(h3 x (hu x (Or.inl hx))).2]), any_congr _ _ _ (fun x hx => by rw [(h3 x (hu x (Or.inr hx))).1])⟩

/-- which of the two is the greater -/
def codeOf (more less : Bool) : Int := if more && less then 4 else if more then 1 else if less then 2 else 3

theorem code_win (l r : Bool) : codeOf (!r) (!l) = if l && r then 3 else if l then 1 else if r then 2 else 4 := by cases l <;> cases r <;> rfl

end Go.Proofs.YtiacgcpcgabdoaaGreat
