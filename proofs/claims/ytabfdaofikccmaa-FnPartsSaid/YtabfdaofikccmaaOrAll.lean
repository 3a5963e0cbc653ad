/- Who wins, and what is at least what: the program's way and the model's. -/
import Derived.Test.YtabfdaofikccmaaFmGood
import Derived.Test.YtabfdaofikccmaaFmBk
import Derived.IntWalk
import Derived.StillTailTactics
import Derived.Test.YtabfdaofikccmaaFmTo
import Derived.Lib.AppendZerosOnto
import Derived.Lib.SliceRun
import Derived.Deep.WholeRow
import Derived.Lib.Walk
import Derived.Test.YtabfdaofikccmaaFmGoodI
import Derived.Deep.Onto
import Derived.Test.YtabfdaofikccmaaFmBase
import Derived.Test.YtabfdaofikccmaaFmLaw
import Derived.Test.YtabfdaofikccmaaFmMarkN
namespace Go.Proofs.Ytabfdaofikccmaa
section
set_option linter.unusedVariables false
set_option linter.unusedSimpArgs false
def nodeD (P : List Nd) (i : Nat) : Nd := P.getD i ([], [])
/-- a player's options -/
def optsD (P : List Nd) (i : Nat) (left : Bool) : List Nat := if left then (nodeD P i).1 else (nodeD P i).2
theorem nodeD_at {P : List Nd} {i : Nat} {nd : Nd} (h : P[i]? = some nd) : nodeD P i = nd := by unfold nodeD; rw [List.getD_eq_getElem?_getD, h]; rfl
theorem optsD_lt {P : List Nd} (hu : Under P) {i x : Nat} {left : Bool} (h : x ∈ optsD P i left) : x < i := by
  cases hn : P[i]? with
  | none =>
    have : nodeD P i = ([], []) := by unfold nodeD; rw [List.getD_eq_getElem?_getD, hn]; rfl
    unfold optsD at h
    rw [this] at h
    cases left <;> simp at h
  | some nd =>
    unfold optsD at h
    rw [nodeD_at hn] at h
    cases left with
    | true => exact hu i nd hn x (Or.inl (by simpa using h))
    | false => exact hu i nd hn x (Or.inr (by simpa using h))
theorem any_congr {α : Type} (l : List α) (p q : α → Bool) (h : ∀ x ∈ l, p x = q x) : l.any p = l.any q := by
  induction l with
  | nil => rfl
  | cons x l ih => simp only [List.any_cons, h x List.mem_cons_self, ih (fun y hy => h y (List.mem_cons_of_mem _ hy))]
/-- who moves first at a difference of two games wins, with some breath -/
def winN (A B : List Nd) : Nat → Nat → Nat → Bool → Bool
  | 0, _, _, _ => false
  | n + 1, i, j, left => (optsD A i left).any (fun o => !winN A B n o j (!left)) || (optsD B j (!left)).any (fun o => !winN A B n i o (!left))
theorem winN_stable (A B : List Nd) (hA : Under A) (hB : Under B) : ∀ n m i j left, i + j < n → i + j < m → winN A B n i j left = winN A B m i j left
  | 0, _, _, _, _, h, _ => by omega
  | _ + 1, 0, _, _, _, _, h => by omega
  | n + 1, m + 1, i, j, left, h1, h2 => by
    unfold winN
    rw [any_congr (optsD A i left) _ (fun o => !winN A B m o j (!left)) (fun o ho => by have := optsD_lt hA ho; rw [winN_stable A B hA hB n m o j (!left) (by omega) (by omega)]),
      any_congr (optsD B j (!left)) _ (fun o => !winN A B m i o (!left)) (fun o ho => by have := optsD_lt hB ho; rw [winN_stable A B hA hB n m i o (!left) (by omega) (by omega)])]
/-- WHO MOVES FIRST WINS -/
def winF (A B : List Nd) (i j : Nat) (left : Bool) : Bool := winN A B (i + j + 1) i j left
theorem winF_eq (A B : List Nd) (hA : Under A) (hB : Under B) (i j : Nat) (left : Bool) :
    winF A B i j left = ((optsD A i left).any (fun o => !winF A B o j (!left)) || (optsD B j (!left)).any (fun o => !winF A B i o (!left))) := by
  have h : winF A B i j left = ((optsD A i left).any (fun o => !winN A B (i + j) o j (!left)) || (optsD B j (!left)).any (fun o => !winN A B (i + j) i o (!left))) := rfl
  rw [h]
  unfold winF
  rw [any_congr (optsD A i left) _ (fun o => !winN A B (o + j + 1) o j (!left)) (fun o ho => by have := optsD_lt hA ho; rw [winN_stable A B hA hB (i + j) (o + j + 1) o j (!left) (by omega) (by omega)]),
    any_congr (optsD B j (!left)) _ (fun o => !winN A B (i + o + 1) i o (!left)) (fun o ho => by have := optsD_lt hB ho; rw [winN_stable A B hA hB (i + j) (i + o + 1) i o (!left) (by omega) (by omega)])]
/-- one node of a book is at least another one, with some breath -/
def geN (C : List Nd) : Nat → Nat → Nat → Bool
  | 0, _, _ => false
  | n + 1, x, y => !((nodeD C x).2.any (fun r => geN C n y r) || (nodeD C y).1.any (fun l => geN C n l x))
/-- ONE NODE OF A BOOK IS AT LEAST ANOTHER ONE -/
def geF (C : List Nd) (x y : Nat) : Bool := geN C (x + y + 1) x y
/-- who wins a game alone: against nothing -/
def soloF (A : List Nd) (i : Nat) (left : Bool) : Bool := winF A [([], [])] i 0 left
theorem under_zero : Under [([], [])] := fun k nd hk x hx => by
  match k, hk with
  | 0, hk => simp at hk; subst hk; simp at hx
theorem soloF_eq (A : List Nd) (hA : Under A) (i : Nat) (left : Bool) : soloF A i left = (optsD A i left).any (fun o => !soloF A o (!left)) := by
  have h := winF_eq A [([], [])] hA under_zero i 0 left
  have h2 : optsD [([], [])] 0 (!left) = [] := by cases left <;> rfl
  rw [h2] at h
  simpa [soloF] using h
/-- the model's two lists -/
def winsF (A : List Nd) : List Bool × List Bool := A.foldl (fun s nd => (s.1 ++ [nd.1.any (fun x => !s.2.getD x false)], s.2 ++ [nd.2.any (fun x => !s.1.getD x false)])) ([], [])
theorem winsF_snoc (A : List Nd) (nd : Nd) : winsF (A ++ [nd]) = ((winsF A).1 ++ [nd.1.any (fun x => !(winsF A).2.getD x false)], (winsF A).2 ++ [nd.2.any (fun x => !(winsF A).1.getD x false)]) := by
  simp [winsF, List.foldl_append]
theorem winsF_is (A : List Nd) (hA : Under A) : ∀ k, k ≤ A.length → (winsF (A.take k)).1.length = k ∧ (winsF (A.take k)).2.length = k ∧ ∀ i, i < k → (winsF (A.take k)).1.getD i false = soloF A i true ∧ (winsF (A.take k)).2.getD i false = soloF A i false
  | 0, _ => ⟨by simp [winsF], by simp [winsF], fun i hi => by omega⟩
  | k + 1, hk => by
    obtain ⟨h1, h2, h3⟩ := winsF_is A hA k (by omega)
    obtain ⟨nd, hnd⟩ := lt_get (l := A) (i := k) (by omega)
    have hu := hA k nd hnd
    have e : A.take (k + 1) = A.take k ++ [nd] := by
      rw [List.take_succ_eq_append_getElem (by omega)]
      rw [List.getElem?_eq_getElem (by omega)] at hnd
      injection hnd with hnd
      rw [hnd]
    rw [e, winsF_snoc]
    refine ⟨by simp [h1], by simp [h2], fun i hi => ?_⟩
    rcases Nat.lt_or_ge i k with hlt | hge
    · have g1 : ((winsF (A.take k)).1 ++ [nd.1.any (fun x => !(winsF (A.take k)).2.getD x false)]).getD i false = (winsF (A.take k)).1.getD i false := by
        rw [List.getD_eq_getElem?_getD, List.getElem?_append_left (by omega), ← List.getD_eq_getElem?_getD]
      have g2 : ((winsF (A.take k)).2 ++ [nd.2.any (fun x => !(winsF (A.take k)).1.getD x false)]).getD i false = (winsF (A.take k)).2.getD i false := by
        rw [List.getD_eq_getElem?_getD, List.getElem?_append_left (by omega), ← List.getD_eq_getElem?_getD]
      rw [g1, g2]
      exact h3 i hlt
    · have hik : i = k := by omega
      subst hik
      have g1 : ((winsF (A.take i)).1 ++ [nd.1.any (fun x => !(winsF (A.take i)).2.getD x false)]).getD i false = nd.1.any (fun x => !(winsF (A.take i)).2.getD x false) := by
        rw [List.getD_eq_getElem?_getD, List.getElem?_append_right (by omega), h1]; simp
      have g2 : ((winsF (A.take i)).2 ++ [nd.2.any (fun x => !(winsF (A.take i)).1.getD x false)]).getD i false = nd.2.any (fun x => !(winsF (A.take i)).1.getD x false) := by
        rw [List.getD_eq_getElem?_getD, List.getElem?_append_right (by omega), h2]; simp
      rw [g1, g2, soloF_eq A hA i true, soloF_eq A hA i false]
      unfold optsD
      rw [nodeD_at hnd]
      simp only [Bool.false_eq_true, if_false, if_true, Bool.not_true, Bool.not_false]
      exact ⟨any_congr _ _ _ (fun x hx => by rw [(h3 x (hu x (Or.inl hx))).2]), any_congr _ _ _ (fun x hx => by rw [(h3 x (hu x (Or.inr hx))).1])⟩
end

section
set_option linter.unusedVariables false
set_option linter.unusedSimpArgs false
theorem place_inj {n x y x' y' : Nat} (hy : y < n) (hy' : y' < n) (h : x * n + y = x' * n + y') : x = x' ∧ y = y' := by
  have h1 : (x * n + y) / n = x := by rw [Nat.mul_comm, Nat.mul_add_div (by omega), Nat.div_eq_of_lt hy]; rfl
  have h2 : (x' * n + y') / n = x' := by rw [Nat.mul_comm, Nat.mul_add_div (by omega), Nat.div_eq_of_lt hy']; rfl
  have h3 : x = x' := by rw [← h1, ← h2, h]
  subst h3
  exact ⟨rfl, by omega⟩
theorem place_lt {m n x y : Nat} (hx : x < m) (hy : y < n) : x * n + y < m * n := by
  have h1 : x * n + n ≤ m * n := by
    rw [← Nat.succ_mul]
    exact Nat.mul_le_mul_right n hx
  omega
/-- the model's entry of a pair -/
def geC (C : List Nd) (x y : Nat) : Int := if geF C x y then 1 else 2
/-- all pairs of lesser sums stand as they are, or aren't known -/
def Rt (C : List Nd) (n : Nat) (cs : List Int) (s : Nat) : Prop := cs.length = n * n ∧ ∀ x y, x < n → y < n → x + y < s → cs[x * n + y]? = some 0 ∨ cs[x * n + y]? = some (geC C x y)
/-- all pairs of no lesser sums stand as they did -/
def Sm (n : Nat) (cs cs' : List Int) (s : Nat) : Prop := ∀ x y, x < n → y < n → s ≤ x + y → cs'[x * n + y]? = cs[x * n + y]?
theorem Sm.refl (n : Nat) (cs : List Int) (s : Nat) : Sm n cs cs s := fun _ _ _ _ _ => rfl
theorem Sm.trans {n s : Nat} {a b c : List Int} (h : Sm n a b s) (g : Sm n b c s) : Sm n a c s := fun x y hx hy hs => (g x y hx hy hs).trans (h x y hx hy hs)
theorem Sm.mono {n s s' : Nat} {a b : List Int} (h : Sm n a b s) (hs : s ≤ s') : Sm n a b s' := fun x y hx hy h' => h x y hx hy (by omega)
theorem Rt.mono {C : List Nd} {n s s' : Nat} {cs : List Int} (h : Rt C n cs s) (hs : s' ≤ s) : Rt C n cs s' := ⟨h.1, fun x y hx hy h' => h.2 x y hx hy (by omega)⟩
/-- behind a question of a lesser sum -/
theorem Rt.behind {C : List Nd} {n s t : Nat} {cs cs' : List Int} (h : Rt C n cs s) (ht : t ≤ s) (h' : Rt C n cs' t) (hs : Sm n cs cs' t) : Rt C n cs' s := ⟨h'.1, fun x y hx hy hxy => by
  rcases Nat.lt_or_ge (x + y) t with h1 | h1
  · exact h'.2 x y hx hy h1
  · rw [hs x y hx hy h1]
    exact h.2 x y hx hy hxy⟩
theorem Rt.zero (C : List Nd) (n s : Nat) : Rt C n (List.replicate (n * n) 0) s := ⟨by simp, fun x y hx hy _ => Or.inl (by rw [List.getElem?_replicate, if_pos (place_lt hx hy)])⟩
/-- a pair's entry is told to be under way -/
theorem Rt.start {C : List Nd} {n : Nat} {cs : List Int} {x y : Nat} (h : Rt C n cs (x + y + 1)) (hx : x < n) (hy : y < n) (v : Int) : Rt C n (cs.set (x * n + y) v) (x + y) ∧ Sm n cs (cs.set (x * n + y) v) (x + y + 1) ∧ (cs.set (x * n + y) v)[x * n + y]? = some v := by
  have ho : ∀ x' y', y' < n → x' + y' ≠ x + y → (cs.set (x * n + y) v)[x' * n + y']? = cs[x' * n + y']? := fun x' y' hy' hne => by
    rw [List.getElem?_set_ne (fun e => hne (by have := place_inj hy hy' e; omega))]
  refine ⟨⟨by rw [List.length_set]; exact h.1, fun x' y' hx' hy' hs => ?_⟩, fun x' y' hx' hy' hs => ho x' y' hy' (by omega), ?_⟩
  · rw [ho x' y' hy' (by omega)]
    exact h.2 x' y' hx' hy' (by omega)
  · rw [List.getElem?_set_self (by rw [h.1]; exact place_lt hx hy)]
/-- a pair's entry is known -/
theorem Rt.done {C : List Nd} {n : Nat} {cs cs1 cs2 : List Int} {x y : Nat} (h : Rt C n cs (x + y + 1)) (hx : x < n) (hy : y < n) (h1 : cs1 = cs.set (x * n + y) 2) (h2 : Rt C n cs2 (x + y)) (hs : Sm n cs1 cs2 (x + y)) :
    (geF C x y = true → Rt C n (cs2.set (x * n + y) 1) (x + y + 1) ∧ Sm n cs (cs2.set (x * n + y) 1) (x + y + 1)) ∧ (geF C x y = false → Rt C n cs2 (x + y + 1) ∧ Sm n cs cs2 (x + y + 1)) ∧ cs2[x * n + y]? = some 2 := by
  have hp : cs2[x * n + y]? = some 2 := by
    rw [hs x y hx hy (Nat.le_refl _), h1, List.getElem?_set_self (by rw [h.1]; exact place_lt hx hy)]
  have ho : ∀ x' y', x' < n → y' < n → x + y ≤ x' + y' → ¬ (x' = x ∧ y' = y) → cs2[x' * n + y']? = cs[x' * n + y']? := fun x' y' hx' hy' hs' hne => by
    rw [hs x' y' hx' hy' hs', h1, List.getElem?_set_ne (fun e => hne (by have := place_inj hy hy' e; omega))]
  have hset : ∀ v x' y', y' < n → ¬ (x' = x ∧ y' = y) → (cs2.set (x * n + y) v)[x' * n + y']? = cs2[x' * n + y']? := fun v x' y' hy' hne => by
    rw [List.getElem?_set_ne (fun e => hne (by have := place_inj hy hy' e; omega))]
  have hl := h2.1
  refine ⟨fun hg => ⟨⟨by rw [List.length_set]; exact hl, fun x' y' hx' hy' hs' => ?_⟩, fun x' y' hx' hy' hs' => ?_⟩, fun hg => ⟨⟨hl, fun x' y' hx' hy' hs' => ?_⟩, fun x' y' hx' hy' hs' => ?_⟩, hp⟩
  · by_cases he : x' = x ∧ y' = y
    · obtain ⟨rfl, rfl⟩ := he
      right
      rw [List.getElem?_set_self (by rw [hl]; exact place_lt hx hy)]
      unfold geC
      rw [hg]; rfl
    · rw [hset 1 x' y' hy' he]
      rcases Nat.lt_or_ge (x' + y') (x + y) with h3 | h3
      · exact h2.2 x' y' hx' hy' h3
      · rw [ho x' y' hx' hy' h3 he]
        exact h.2 x' y' hx' hy' hs'
  · have he : ¬ (x' = x ∧ y' = y) := by omega
    rw [hset 1 x' y' hy' he]
    exact ho x' y' hx' hy' (by omega) he
  · by_cases he : x' = x ∧ y' = y
    · obtain ⟨rfl, rfl⟩ := he
      right
      rw [hp]
      unfold geC
      rw [hg]; rfl
    · rcases Nat.lt_or_ge (x' + y') (x + y) with h3 | h3
      · exact h2.2 x' y' hx' hy' h3
      · rw [ho x' y' hx' hy' h3 he]
        exact h.2 x' y' hx' hy' hs'
  · have he : ¬ (x' = x ∧ y' = y) := by omega
    exact ho x' y' hx' hy' (by omega) he
def ofB (b : Bool) : Nat := if b then 1 else 0
/-- the place of a pair and who moves -/
def plc (m i j : Nat) (left : Bool) : Nat := 2 * (i * m + j) + ofB left
theorem ofB_lt (b : Bool) : ofB b < 2 := by cases b <;> decide
theorem plc_inj {m i j i' j' : Nat} {l l' : Bool} (hj : j < m) (hj' : j' < m) (h : plc m i j l = plc m i' j' l') : i = i' ∧ j = j' ∧ l = l' := by
  unfold plc at h
  have h1 := ofB_lt l
  have h2 := ofB_lt l'
  have h3 : i * m + j = i' * m + j' := by omega
  have h4 : ofB l = ofB l' := by omega
  refine ⟨(place_inj hj hj' h3).1, (place_inj hj hj' h3).2, ?_⟩
  cases l <;> cases l' <;> first | rfl | (exact absurd h4 (by decide))
theorem plc_lt {n m i j : Nat} {l : Bool} (hi : i < n) (hj : j < m) : plc m i j l < 2 * (n * m) := by
  have h1 := place_lt hi hj
  have h2 := ofB_lt l
  unfold plc
  omega
/-- the program's entry -/
def wiC (A B : List Nd) (i j : Nat) (left : Bool) : Int := if winF A B i j left then 1 else 2
/-- all entries are right, or aren't known -/
def Wn (A B : List Nd) (cs : List Int) : Prop := cs.length = 2 * (A.length * B.length) ∧ ∀ i j l, i < A.length → j < B.length → cs[plc B.length i j l]? = some 0 ∨ cs[plc B.length i j l]? = some (wiC A B i j l)
theorem Wn.zero (A B : List Nd) : Wn A B (List.replicate (2 * (A.length * B.length)) 0) := ⟨by simp, fun i j l hi hj => Or.inl (by rw [List.getElem?_replicate, if_pos (plc_lt hi hj)])⟩
theorem Wn.set {A B : List Nd} {cs : List Int} (h : Wn A B cs) {i j : Nat} {l : Bool} (hi : i < A.length) (hj : j < B.length) : Wn A B (cs.set (plc B.length i j l) (wiC A B i j l)) := ⟨by rw [List.length_set]; exact h.1, fun i' j' l' hi' hj' => by
  by_cases he : plc B.length i j l = plc B.length i' j' l'
  · obtain ⟨rfl, rfl, rfl⟩ := plc_inj hj hj' he
    right
    rw [List.getElem?_set_self (by rw [h.1]; exact plc_lt hi hj)]
  · rw [List.getElem?_set_ne he]
    exact h.2 i' j' l' hi' hj'⟩
theorem any_take_false {α : Type} (l : List α) (p : α → Bool) (k : Nat) (x : α) (hx : l[k]? = some x) (h : (l.take k).any p = false) (hp : p x = false) : (l.take (k + 1)).any p = false := by
  rw [List.take_add_one, hx, List.any_append, h]
  simp [hp]
theorem any_at {α : Type} (l : List α) (p : α → Bool) (k : Nat) (x : α) (hx : l[k]? = some x) (hp : p x = true) : l.any p = true := List.any_eq_true.2 ⟨x, List.mem_of_getElem? hx, hp⟩
end

section
open Go.RowKit
set_option linter.unusedVariables false
set_option linter.unusedSimpArgs false
theorem options_calls (v1 v2 : Value) (left : Bool) (w : World) :
    Calls Try.prog 67 #[.agg #[v1, v2], .bool left] w fun e w' => e = .returned (if left then v1 else v2) ∧ Below w.heap.size w w' := by
  have HB := Lib.hid fun o => show Below w.heap.size w (w.alloc o) from (Below.refl _ _).alloc (Nat.le_refl _) _
  cases left with
  | true =>
    go_enter Try.func67, Try.ntmps67
    go_wp2
    go_ret
    exact ⟨rfl, HB.out _⟩
  | false =>
    go_enter Try.func67, Try.ntmps67
    go_wp2
    go_ret
    exact ⟨rfl, HB.out _⟩
/-- the table of answers -/
def RowV (base g n cap : Nat) (cs : List Int) (w : World) : Prop := w.ownsRow base 119 1 (.slice (some ⟨g, 0, none⟩) n cap) n (cs.map (Value.int .i8))
theorem RowV.at_ {base g n cap x : Nat} {v : Int} {cs : List Int} {w : World} (h : RowV base g n cap cs w) (hx : cs[x]? = some v) : w.cell? ⟨g, x, none⟩ = some (.int .i8 v) ∧ w.frozen? ⟨g, x, none⟩ = false := by
  have hl : (cs.map (Value.int .i8)).length = n * 1 := h.1
  have hlt := get_lt hx
  rw [List.length_map] at hl
  have h2 := World.ownsRow.cellAt h x (by omega)
  refine ⟨?_, World.ownsRow.frozenAt h x⟩
  rw [h2, List.getElem?_map, hx]
  rfl
theorem RowV.put {base g n cap x : Nat} {v : Int} {cs : List Int} {w : World} (h : RowV base g n cap cs w) :
    RowV base g n cap (cs.set x v) (w.setCell ⟨g, x, none⟩ (.int .i8 v)) ∧ Only w (w.setCell ⟨g, x, none⟩ (.int .i8 v)) (fun b => b = g) := by
  have h2 := World.ownsRow.stored h x (.int .i8 v)
  rw [← List.map_set] at h2
  exact ⟨h2.1, Only.of_set _ rfl⟩
theorem RowV.lt {base g n cap : Nat} {cs : List Int} {w : World} (h : RowV base g n cap cs w) : base ≤ g ∧ g < w.heap.size := World.ownsRow.lt h g rfl
theorem RowV.below {base g n cap : Nat} {cs : List Int} {w w' : World} (h : RowV base g n cap cs w) (hb : Below w.heap.size w w') : RowV base g n cap cs w' :=
  own_only h (Only.of_below (F := fun _ => False) hb) (fun _ _ => id)
/-- a contest of two games -/
structure Ct (w : World) (base P g n cap : Nat) (A B : List Nd) (va vb : Value) : Prop where
  c0 : w.cell? ⟨P, 0, none⟩ = some va
  c1 : w.cell? ⟨P, 1, none⟩ = some vb
  c2 : w.cell? ⟨P, 2, none⟩ = some (.slice (some ⟨g, 0, none⟩) n cap)
  na : NodesZ w 0 base va (A.map upN)
  nb : NodesZ w 0 base vb (B.map upN)
  hg : base ≤ g
  hgl : g < w.heap.size
  hP : P ≠ g
theorem Only.sameIn {w w' : World} {F : Nat → Prop} {hi : Nat} (h : Only w w' F) (hl : hi ≤ w.heap.size) (hF : ∀ b, b < hi → ¬ F b) : SameIn 0 hi w w' := fun b o _ h2 => h.cell (by omega) (hF b h2)
theorem Ct.only {w w' : World} {base P g n cap : Nat} {A B : List Nd} {va vb : Value} (h : Ct w base P g n cap A B va vb) (ho : Only w w' (fun b => b = g)) : Ct w' base P g n cap A B va vb := by
  have hP := block_of_cell h.c0
  have h1 := h.hg
  have h2 := h.hgl
  have hs : SameIn 0 base w w' := ho.sameIn (by omega) (fun b hb e => by omega)
  exact ⟨(ho.cell hP h.hP).trans h.c0, (ho.cell hP h.hP).trans h.c1, (ho.cell hP h.hP).trans h.c2, h.na.keep hs, h.nb.keep hs, h.hg, Nat.lt_of_lt_of_le h.hgl ho.size, h.hP⟩
theorem Ct.below {w w' : World} {base P g n cap : Nat} {A B : List Nd} {va vb : Value} (h : Ct w base P g n cap A B va vb) (hb : Below w.heap.size w w') : Ct w' base P g n cap A B va vb := h.only (Only.of_below hb)
/-- what a question of the contest leaves -/
def Asked (base g n cap : Nat) (A B : List Nd) (w w' : World) : Prop := ∃ cs, Wn A B cs ∧ RowV base g n cap cs w' ∧ Only w w' (fun b => b = g)
/-- a node of a slice of nodes of numbers, cell by cell -/
theorem nodes_at {w : World} {lo hi : Nat} {v : Value} {A : List Nd} (h : NodesZ w lo hi v (A.map upN)) {i : Nat} {nd : Nd} (hi' : A[i]? = some nd) :
    ∃ b off c v1 v2, v = .slice (some ⟨b, off, none⟩) A.length c ∧ b < hi ∧ w.cell? ⟨b, off + i * 2, none⟩ = some v1 ∧ w.cell? ⟨b, off + i * 2 + 1, none⟩ = some v2 ∧ IntsZ w lo hi v1 (upL nd.1) ∧ IntsZ w lo hi v2 (upL nd.2) := by
  obtain ⟨ao, c, rfl, _, h3⟩ := h
  obtain ⟨b, off, v1, v2, rfl, _, hb, p1, p2, i1, i2⟩ := h3 i (upN nd) (by rw [List.getElem?_map, hi']; rfl)
  exact ⟨b, off, c, v1, v2, by rw [List.length_map], hb, p1, p2, i1, i2⟩
end

section
open Go.RowKit
set_option linter.unusedVariables false
set_option linter.unusedSimpArgs false
/-- wins, for the pairs of a lesser sum -/
def WinsB (base P g n cap : Nat) (A B : List Nd) (va vb : Value) (s : Nat) : Prop := ∀ (i j : Nat) (l : Bool) (cs : List Int) (w : World), i + j < s → i < A.length → j < B.length → Ct w base P g n cap A B va vb → Wn A B cs → RowV base g n cap cs w →
  Calls Try.prog 72 #[.pointer (some ⟨P, 0, none⟩), .int .i64 i, .int .i64 j, .bool l] w fun e w' => e = .returned (.bool (winF A B i j l)) ∧ Asked base g n cap A B w w'
theorem Asked.trans {base g n cap : Nat} {A B : List Nd} {w w1 w2 : World} (h : Asked base g n cap A B w w1) (k : Asked base g n cap A B w1 w2) : Asked base g n cap A B w w2 := by
  obtain ⟨_, _, _, h3⟩ := h
  obtain ⟨cs, k1, k2, k3⟩ := k
  exact ⟨cs, k1, k2, h3.trans k3 (fun _ _ h => h)⟩
theorem Asked.only {base g n cap : Nat} {A B : List Nd} {w w1 : World} (h : Asked base g n cap A B w w1) : Only w w1 (fun b => b = g) := by obtain ⟨_, _, _, h3⟩ := h; exact h3
theorem Asked.below {base g n cap : Nat} {A B : List Nd} {w w1 w2 : World} (h : Asked base g n cap A B w w1) (hb : Below w1.heap.size w1 w2) : Asked base g n cap A B w w2 := by
  obtain ⟨cs, k1, k2, h3⟩ := h
  exact ⟨cs, k1, k2.below hb, h3.trans (Only.of_below hb) (fun _ _ h => h)⟩
theorem Asked.same {base g n cap : Nat} {A B : List Nd} {w w1 : World} (h : Asked base g n cap A B w w1) (hg : base ≤ g) (hl : g < w.heap.size) : SameIn 0 base w w1 := h.only.sameIn (by omega) (fun b hb e => by omega)
theorem ints_len {w : World} {lo hi : Nat} {v : Value} {l : List Nat} (h : IntsZ w lo hi v (upL l)) : ∃ ao c, v = .slice ao l.length c ∧ (l.length ≤ c ∧ c ≤ 9223372036854775807) := by
  obtain ⟨ao, c, rfl, h2, _⟩ := h
  have : (upL l).length = l.length := by unfold upL; simp
  rw [this] at h2 ⊢
  exact ⟨ao, c, rfl, h2⟩
theorem ints_at {w : World} {lo hi : Nat} {ao : Option Addr} {n c : Nat} {l : List Nat} (h : IntsZ w lo hi (.slice ao n c) (upL l)) {k x : Nat} (hx : l[k]? = some x) : ∃ b off, ao = some ⟨b, off, none⟩ ∧ b < hi ∧ w.cell? ⟨b, off + k, none⟩ = some (.int .i64 (x : Int)) := by
  obtain ⟨ao', c', e, _, h3⟩ := h
  injection e with e1 _ _
  subst e1
  obtain ⟨b, off, e, _, hb, hc⟩ := h3 k (x : Int) (by unfold upL; rw [List.getElem?_map, hx]; rfl)
  exact ⟨b, off, e, hb, hc⟩
set_option maxRecDepth 100000 in
set_option maxHeartbeats 4000000 in
theorem search_calls (base P g n cap : Nat) (A B : List Nd) (va vb : Value) (hA : Under A) (hB : Under B) (i j : Nat) (l : Bool) (IH : WinsB base P g n cap A B va vb (i + j)) (cs : List Int) (w : World) (hi : i < A.length) (hj : j < B.length)
    (h : Ct w base P g n cap A B va vb) (hw : Wn A B cs) (hr : RowV base g n cap cs w) :
    Calls Try.prog 93 #[.pointer (some ⟨P, 0, none⟩), .int .i64 i, .int .i64 j, .bool l] w fun e w' => e = .returned (.int .i8 (wiC A B i j l)) ∧ Asked base g n cap A B w w' := by
  obtain ⟨x, hx⟩ := lt_get hi
  obtain ⟨y, hy⟩ := lt_get hj
  obtain ⟨b1, o1, c1, v1, v2, rfl, hb1, p1, p2, i1, i2⟩ := nodes_at h.na hx
  obtain ⟨b2, o2, c2, u1, u2, rfl, hb2, q1, q2, j1, j2⟩ := nodes_at h.nb hy
  have hbz := h.hg
  have hbz2 := h.hgl
  have k0 := h.c0
  have HC0 := Lib.hid h
  have L1 : Hid (optsD A i l = if l then x.1 else x.2) := Lib.hid (by unfold optsD; rw [nodeD_at hx])
  have L2 : Hid (optsD B j (!l) = if !l then y.1 else y.2) := Lib.hid (by unfold optsD; rw [nodeD_at hy])
  have HW : Hid (winF A B i j l = ((optsD A i l).any (fun o => !winF A B o j (!l)) || (optsD B j (!l)).any (fun o => !winF A B i o (!l)))) := Lib.hid (winF_eq A B hA hB i j l)
  have HL1 : Hid (∀ o, o ∈ optsD A i l → o < i) := Lib.hid (fun o ho => optsD_lt hA ho)
  have HL2 : Hid (∀ o, o ∈ optsD B j (!l) → o < j) := Lib.hid (fun o ho => optsD_lt hB ho)
  have HIH := Lib.hid IH
  have HQ1 := Lib.hid q1
  have HQ2 := Lib.hid q2
  have HJ1 := Lib.hid j1
  have HJ2 := Lib.hid j2
  clear IH hA hB hx hy q1 q2 j1 j2
  go_enter Try.func93, Try.ntmps93
  go_wp2_with fail
  refine (options_calls v1 v2 l w).mono ?_
  rintro e w1 ⟨rfl, hb⟩
  obtain ⟨vo, Lo, hvo, hio, hLo⟩ : ∃ vo Lo, (if l then v1 else v2) = vo ∧ IntsZ w1 0 base vo (upL Lo) ∧ Hid (optsD A i l = Lo) := by
    cases l with
    | true => exact ⟨v1, x.1, rfl, i1.below hb (by omega), Lib.hid (by rw [L1.out]; rfl)⟩
    | false => exact ⟨v2, x.2, rfl, i2.below hb (by omega), Lib.hid (by rw [L1.out]; rfl)⟩
  rw [hvo]
  rw [hLo.out] at HW HL1
  have HC := Lib.hid (h.below hb)
  have HA : Hid (Asked base g n cap A B w w1) := Lib.hid ⟨cs, hw, hr.below hb, Only.of_below hb⟩
  obtain ⟨ao, co, rfl, hco⟩ := ints_len hio
  have HIO := Lib.hid hio
  clear h hr hb i1 i2 p1 p2 k0 hvo L1 hio hw hLo
  go_wp2
  go_loopw [23] (fun q wr => ∃ k : Nat, k ≤ Lo.length ∧ q = .int .i64 k ∧ Hid ((Lo.take k).any (fun o => !winF A B o j (!l)) = false) ∧ Hid (Asked base g n cap A B w wr) ∧ Hid (Ct wr base P g n cap A B (.slice (some ⟨b1, o1, none⟩) A.length c1) (.slice (some ⟨b2, o2, none⟩) B.length c2)) ∧ Hid (IntsZ wr 0 base (.slice ao Lo.length co) (upL Lo))) (fun q _ => Lo.length - (intOf q).toNat)
  case atStart => exact ⟨0, Nat.zero_le _, rfl, Lib.hid (by simp), HA, HC, HIO⟩
  case round =>
    obtain ⟨k, hk, rfl, hany, ha, hc, hio⟩ := hrel
    clear HA HC HIO
    have hgl := ha.out.only.size
    by_cases hlt : k < Lo.length
    · obtain ⟨o, ho⟩ := lt_get hlt
      have hoi := HL1.out o (List.mem_of_getElem? ho)
      obtain ⟨b, off, rfl, hbb, hcell⟩ := ints_at hio.out ho
      obtain ⟨r, hr⟩ : ∃ r, winF A B o j (!l) = r := ⟨_, rfl⟩
      have C := Lib.hid (show ∀ W, Below wr.heap.size wr W → Calls Try.prog 72 #[.pointer (some ⟨P, 0, none⟩), .int .i64 o, .int .i64 j, .bool (!l)] W fun e w' => e = .returned (.bool r) ∧ Asked base g n cap A B W w' from fun W hW => by
        obtain ⟨cs', h1, h2, h3⟩ := ha.out
        rw [← hr]
        exact HIH.out o j (!l) cs' W (by omega) (by omega) hj (hc.out.below hW) h1 (h2.below hW))
      have HO := Lib.hid ho
      have HRR := Lib.hid hr
      clear ho hr
      have b0 : (0 : Int) ≤ k := by omega
      have b1' : (k : Int) < Lo.length := by omega
      cases r with
      | false =>
        have R : Hid (wiC A B i j l = 1) := Lib.hid (by
          unfold wiC
          rw [HW.out, any_at Lo _ k o HO.out (by simp [HRR.out])]
          rfl)
        go_wp2_with fail
        refine (C.out _ (Below.refl _ _)).mono ?_
        rintro e w2 ⟨rfl, ha2⟩
        have HA2 := Lib.hid (ha.out.trans ha2)
        clear ha2
        go_wp2_with fail
        go_ret
        exact ⟨ret_int R.out.symm, HA2.out⟩
      | true =>
        have R : Hid ((Lo.take (k + 1)).any (fun o => !winF A B o j (!l)) = false) := Lib.hid (any_take_false Lo _ k o HO.out hany.out (by simp [HRR.out]))
        go_wp2_with fail
        refine (C.out _ (Below.refl _ _)).mono ?_
        rintro e w2 ⟨rfl, ha2⟩
        have HA2 := Lib.hid (ha.out.trans ha2)
        have HC2 := Lib.hid (hc.out.only ha2.only)
        have HI2 := Lib.hid (hio.out.keep (ha2.same hbz (by omega)))
        clear ha2
        go_wp2_with fail
        go_roundw
        case rel => exact ⟨k + 1, by omega, by go_num, R, HA2, HC2, HI2⟩
        case measure => simp [intOf]; omega
    · have HAN : Hid (Lo.any (fun o => !winF A B o j (!l)) = false) := Lib.hid (by
        have := hany.out
        rwa [List.take_of_length_le (by omega)] at this)
      clear hany hio HL1
      obtain ⟨W1, hW1⟩ : ∃ W, W = wr := ⟨_, rfl⟩
      subst hW1
      have hsm := ha.out.same hbz hbz2
      have k1 := hc.out.c1
      have p1 := (hsm b2 (o2 + j * 2) (Nat.zero_le _) hb2).trans HQ1.out
      have p2 := (hsm b2 (o2 + j * 2 + 1) (Nat.zero_le _) hb2).trans HQ2.out
      have i1 := Lib.hid (HJ1.out.keep hsm)
      have i2 := Lib.hid (HJ2.out.keep hsm)
      have bj : (j : Int) < B.length := by omega
      clear hsm HQ1 HQ2 HJ1 HJ2 HC0
      go_wp2_with fail
      refine (options_calls u1 u2 (!l) W1).mono ?_
      rintro e w2 ⟨rfl, hb⟩
      obtain ⟨vo, Lp, hvo, hio, hLo⟩ : ∃ vo Lp, (if !l then u1 else u2) = vo ∧ IntsZ w2 0 base vo (upL Lp) ∧ Hid (optsD B j (!l) = Lp) := by
        cases l with
        | false => exact ⟨u1, y.1, rfl, i1.out.below hb (by omega), Lib.hid (by rw [L2.out]; rfl)⟩
        | true => exact ⟨u2, y.2, rfl, i2.out.below hb (by omega), Lib.hid (by rw [L2.out]; rfl)⟩
      rw [hvo]
      rw [hLo.out] at HW HL2
      have HC := Lib.hid (hc.out.below hb)
      have HA : Hid (Asked base g n cap A B w w2) := Lib.hid (ha.out.below hb)
      obtain ⟨ap, cp, rfl, hcp⟩ := ints_len hio
      have HIO := Lib.hid hio
      clear hb i1 i2 p1 p2 k1 hvo L2 hio hLo ha hc
      go_wp2
      go_loopw [46] (fun q wr => ∃ k : Nat, k ≤ Lp.length ∧ q = .int .i64 k ∧ Hid ((Lp.take k).any (fun o => !winF A B i o (!l)) = false) ∧ Hid (Asked base g n cap A B w wr) ∧ Hid (Ct wr base P g n cap A B (.slice (some ⟨b1, o1, none⟩) A.length c1) (.slice (some ⟨b2, o2, none⟩) B.length c2)) ∧ Hid (IntsZ wr 0 base (.slice ap Lp.length cp) (upL Lp))) (fun q _ => Lp.length - (intOf q).toNat)
      case atStart => exact ⟨0, Nat.zero_le _, rfl, Lib.hid (by simp), HA, HC, HIO⟩
      case round =>
        obtain ⟨m, hm, rfl, hany, ha, hc, hio⟩ := hrel
        clear HA HC HIO
        have hgl := ha.out.only.size
        by_cases hlt2 : m < Lp.length
        · obtain ⟨o, ho⟩ := lt_get hlt2
          have hoi := HL2.out o (List.mem_of_getElem? ho)
          obtain ⟨b, off, rfl, hbb, hcell⟩ := ints_at hio.out ho
          obtain ⟨r, hr⟩ : ∃ r, winF A B i o (!l) = r := ⟨_, rfl⟩
          have C := Lib.hid (show ∀ W, Below wr.heap.size wr W → Calls Try.prog 72 #[.pointer (some ⟨P, 0, none⟩), .int .i64 i, .int .i64 o, .bool (!l)] W fun e w' => e = .returned (.bool r) ∧ Asked base g n cap A B W w' from fun W hW => by
            obtain ⟨cs', h1, h2, h3⟩ := ha.out
            rw [← hr]
            exact HIH.out i o (!l) cs' W (by omega) hi (by omega) (hc.out.below hW) h1 (h2.below hW))
          have HO := Lib.hid ho
          have HRR := Lib.hid hr
          clear ho hr
          have b0 : (0 : Int) ≤ m := by omega
          have b1' : (m : Int) < Lp.length := by omega
          cases r with
          | false =>
            have R : Hid (wiC A B i j l = 1) := Lib.hid (by
              unfold wiC
              rw [HW.out, any_at Lp _ m o HO.out (by simp [HRR.out]), Bool.or_true]
              rfl)
            go_wp2_with fail
            refine (C.out _ (Below.refl _ _)).mono ?_
            rintro e w3 ⟨rfl, ha2⟩
            have HA2 := Lib.hid (ha.out.trans ha2)
            clear ha2
            go_wp2_with fail
            go_ret
            exact ⟨ret_int R.out.symm, HA2.out⟩
          | true =>
            have R : Hid ((Lp.take (m + 1)).any (fun o => !winF A B i o (!l)) = false) := Lib.hid (any_take_false Lp _ m o HO.out hany.out (by simp [HRR.out]))
            go_wp2_with fail
            refine (C.out _ (Below.refl _ _)).mono ?_
            rintro e w3 ⟨rfl, ha2⟩
            have HA2 := Lib.hid (ha.out.trans ha2)
            have HC2 := Lib.hid (hc.out.only ha2.only)
            have HI2 := Lib.hid (hio.out.keep (ha2.same hbz (by omega)))
            clear ha2
            go_wp2_with fail
            go_roundw
            case rel => exact ⟨m + 1, by omega, by go_num, R, HA2, HC2, HI2⟩
            case measure => simp [intOf]; omega
        · have R : Hid (wiC A B i j l = 2) := Lib.hid (by
            have := hany.out
            rw [List.take_of_length_le (by omega)] at this
            unfold wiC
            rw [HW.out, HAN.out, this]
            rfl)
          clear hany hio
          go_wp2_with fail
          go_ret
          exact ⟨ret_int R.out.symm, ha.out⟩
theorem asked_put {base P g n cap : Nat} {A B : List Nd} {va vb : Value} {w w2 : World} {i j p : Nat} {l : Bool} {wv : Int} (h : Ct w base P g n cap A B va vb) (ha : Asked base g n cap A B w w2) (hi : i < A.length) (hj : j < B.length) (hp : plc B.length i j l = p) (hwv : wiC A B i j l = wv) :
    w2.cell? ⟨P, 2, none⟩ = some (.slice (some ⟨g, 0, none⟩) n cap) ∧ (∃ u, w2.cell? ⟨g, p, none⟩ = some (.int .i8 u)) ∧ w2.frozen? ⟨g, p, none⟩ = false ∧ Hid (Asked base g n cap A B w (w2.setCell ⟨g, p, none⟩ (.int .i8 wv))) ∧
      (w2.setCell ⟨g, p, none⟩ (.int .i8 wv)).cell? ⟨P, 2, none⟩ = some (.slice (some ⟨g, 0, none⟩) n cap) ∧ (w2.setCell ⟨g, p, none⟩ (.int .i8 wv)).cell? ⟨g, p, none⟩ = some (.int .i8 wv) := by
  subst hp hwv
  have h2 := h.only ha.only
  obtain ⟨cs, hw, hr, ho⟩ := ha
  obtain ⟨v, hv⟩ := lt_get (l := cs) (i := plc B.length i j l) (by rw [hw.1]; exact plc_lt hi hj)
  obtain ⟨c0, f0⟩ := hr.at_ hv
  obtain ⟨hr2, ho2⟩ := hr.put (x := plc B.length i j l) (v := wiC A B i j l)
  exact ⟨h2.c2, ⟨v, c0⟩, f0, Lib.hid ⟨_, hw.set hi hj, hr2, ho.trans ho2 (fun _ _ h => h)⟩, (h2.only ho2).c2, World.cell?_setCell_same _ _ _ c0⟩
set_option maxRecDepth 100000 in
set_option maxHeartbeats 4000000 in
theorem wins_step (base P g n cap : Nat) (A B : List Nd) (va vb : Value) (hA : Under A) (hB : Under B) (hAl : A.length ≤ 1000) (hBl : B.length ≤ 1000) (i j : Nat) (l : Bool) (IH : WinsB base P g n cap A B va vb (i + j)) (cs : List Int) (w : World) (hi : i < A.length) (hj : j < B.length)
    (h : Ct w base P g n cap A B va vb) (hw : Wn A B cs) (hr : RowV base g n cap cs w) :
    Calls Try.prog 72 #[.pointer (some ⟨P, 0, none⟩), .int .i64 i, .int .i64 j, .bool l] w fun e w' => e = .returned (.bool (winF A B i j l)) ∧ Asked base g n cap A B w w' := by
  have hdr : Below w.heap.size w w.drew := below_drewN (Below.refl _ _) 1
  have C0 := (search_calls base P g n cap A B va vb hA hB i j l IH cs w.drew hi hj (h.below hdr) hw (hr.below hdr)).mono fun e w' hp => (⟨hp.1, Asked.trans ⟨cs, hw, hr.below hdr, Only.of_below hdr⟩ hp.2⟩ : e = .returned (.int .i8 (wiC A B i j l)) ∧ Asked base g n cap A B w w')
  clear hdr
  have hn : n = 2 * (A.length * B.length) := by have := hr.1; rw [List.length_map, hw.1] at this; omega
  have hp := plc_lt (l := l) hi hj
  obtain ⟨q, hq⟩ : ∃ q, i * B.length = q := ⟨_, rfl⟩
  have hqi : (i : Int) * (B.length : Int) = (q : Int) := by rw [← hq]; simp
  have hqb : q ≤ 1000000 := by rw [← hq]; exact Nat.le_trans (Nat.mul_le_mul (show i ≤ 1000 by omega) hBl) (by omega)
  obtain ⟨ao, c2, rfl, hcb⟩ := (show ∃ ao c, vb = .slice ao B.length c ∧ B.length ≤ c from by obtain ⟨ao, c, e, h1, _⟩ := h.nb; rw [List.length_map] at e h1; exact ⟨ao, c, e, h1.1⟩)
  have hlt : plc B.length i j l < n := by rw [hn]; exact hp
  obtain ⟨v, hv⟩ := lt_get (l := cs) (i := plc B.length i j l) (by rw [hw.1]; exact hp)
  have hent := hw.2 i j l hi hj
  rw [hv] at hent
  obtain ⟨c0, f0⟩ := hr.at_ hv
  obtain ⟨p0, hp0⟩ : ∃ p0, 2 * (q + j) = p0 := ⟨_, rfl⟩
  have hpi : 2 * ((q : Int) + (j : Int)) = (p0 : Int) := by omega
  have hpl : plc B.length i j l = p0 + ofB l := by unfold plc; rw [hq, hp0]
  have k1 := h.c1
  have k2 := h.c2
  have HA0 : Hid (Asked base g n cap A B w w) := Lib.hid ⟨cs, hw, hr, Only.refl _ _⟩
  obtain ⟨r, hwr⟩ : ∃ r, winF A B i j l = r := ⟨_, rfl⟩
  obtain ⟨wv, hwv⟩ : ∃ wv, wiC A B i j l = wv := ⟨_, rfl⟩
  have hwv2 : wv = if r then 1 else 2 := by rw [← hwv, ← hwr]; rfl
  have HF := Lib.hid fun w2 (ha : Asked base g n cap A B w w2) => asked_put h ha hi hj hpl hwv
  rw [hwr]
  rw [hwv] at C0 hent
  have C := Lib.hid C0
  rw [hpl] at hlt c0 f0
  have hjb : (j : Int) ≤ 1000 := by omega
  have hp0b : (p0 : Int) ≤ 2002000 := by omega
  have hp00 : (0 : Int) ≤ p0 := by omega
  clear hq hp0 hn hp hr hw hv hpl h IH hA hB C0 hwr hwv hAl hBl
  cases l with
  | false =>
    have e0 : p0 + ofB false = p0 := rfl
    rw [e0] at hlt c0 f0 HF
    have hltI : (p0 : Int) < n := by omega
    clear e0
    have hv2 : v = wv ∨ v = 0 := by
      rcases hent with e | e
      · right; injection e
      · left; injection e
    clear hent
    rcases hv2 with e | e
    · have v0 : (v == 0) = false := by rw [e, hwv2]; cases r <;> rfl
      have v1 : (v == 1) = r := by rw [e, hwv2]; cases r <;> rfl
      clear e hwv2 C HF
      go_enter Try.func72, Try.ntmps72
      go_wp2_with fail
      go_ret
      exact ⟨rfl, HA0.out⟩
    · subst e
      have v1 : (wv == 1) = r := by rw [hwv2]; cases r <;> rfl
      clear hwv2 HA0
      go_enter Try.func72, Try.ntmps72
      go_wp2_with fail
      go_region_with (go_at_call 93; (with_reducible refine C.out.mono ?_); rintro e w2 ⟨rfl, ha⟩; obtain ⟨d2, ⟨u, d0⟩, df, HA2, d3, d4⟩ := HF.out w2 ha; clear ha)
      all_goals
        go_wp2_with fail
        go_ret
        exact ⟨rfl, HA2.out⟩
  | true =>
    have e0 : p0 + ofB true = p0 + 1 := rfl
    rw [e0] at hlt c0 f0 HF
    have hltI : (p0 : Int) + 1 < n := by omega
    clear e0
    have hv2 : v = wv ∨ v = 0 := by
      rcases hent with e | e
      · right; injection e
      · left; injection e
    clear hent
    rcases hv2 with e | e
    · have v0 : (v == 0) = false := by rw [e, hwv2]; cases r <;> rfl
      have v1 : (v == 1) = r := by rw [e, hwv2]; cases r <;> rfl
      clear e hwv2 C HF
      go_enter Try.func72, Try.ntmps72
      go_wp2_with fail
      go_ret
      exact ⟨rfl, HA0.out⟩
    · subst e
      have v1 : (wv == 1) = r := by rw [hwv2]; cases r <;> rfl
      clear hwv2 HA0
      go_enter Try.func72, Try.ntmps72
      go_wp2_with fail
      go_region_with (go_at_call 93; (with_reducible refine C.out.mono ?_); rintro e w2 ⟨rfl, ha⟩; obtain ⟨d2, ⟨u, d0⟩, df, HA2, d3, d4⟩ := HF.out w2 ha; clear ha)
      all_goals
        go_wp2_with fail
        go_ret
        exact ⟨rfl, HA2.out⟩
theorem wins_calls (base P g n cap : Nat) (A B : List Nd) (va vb : Value) (hA : Under A) (hB : Under B) (hAl : A.length ≤ 1000) (hBl : B.length ≤ 1000) : ∀ s, WinsB base P g n cap A B va vb s
  | 0 => fun i j l cs w h => by omega
  | s + 1 => fun i j l cs w hs hi hj h hw hr => by
    have IH := wins_calls base P g n cap A B va vb hA hB hAl hBl s
    exact wins_step base P g n cap A B va vb hA hB hAl hBl i j l (fun i' j' l' cs' w' hs' hi' hj' h' hw' hr' => IH i' j' l' cs' w' (by omega) hi' hj' h' hw' hr') cs w hi hj h hw hr
end

section
open Go.RowKit Go.Lib
set_option linter.unusedVariables false
set_option linter.unusedSimpArgs false
theorem infoVer : (Try.prog.info? 119).map (fun i => (i.zero, i.size, i.bytes)) = some (some (.int .i8 0), 1, 1) := by kernel_rfl
theorem zeros_one (z : Value) (n : Nat) : Builtin.zeroCells #[z] n = (List.replicate n z).toArray := by
  apply Array.ext
  · simp [Builtin.zeroCells]
  · intro i h1 h2
    simp [Builtin.zeroCells, Nat.mod_one]
set_option maxRecDepth 100000 in
set_option maxHeartbeats 4000000 in
theorem grow_calls (n : Nat) (w : World) (h0 : 0 < n) (hn : n ≤ 100000) :
    Calls Try.prog 92 #[.slice none 0 0, .int .i64 n] w fun e w' => ∃ G m, n ≤ G ∧ G ≤ maxLen ∧ Hid (m = G - n) ∧ e = .returned (.slice (some ⟨w.heap.size, 0, none⟩) 0 G) ∧
      w' = w.drew.alloc (.cells ((List.replicate n (Value.int .i8 0)).toArray ++ (List.replicate m (Value.int .i8 0)).toArray) 119) := by
  obtain ⟨i0, hi0, hz0, hz1, hz2⟩ := info_parts infoVer
  have hrz : ∀ ty, (Builtin.append_ #[93, 3] ty #[.slice none 0 0, .int .i64 (n : Int)]).run Try.prog w =
      .ok (.slice (some ⟨w.heap.size, 0, none⟩) n (grownCap w n 0 119)) (w.drew.alloc (.cells ((List.replicate n (Value.int .i8 0)).toArray ++ (List.replicate (grownCap w n 0 119 - n) (Value.int .i8 0)).toArray) 119)) := fun ty => by
    have h := Lib.run_append_grow_zeros w 93 3 ty 119 i0 (.int .i8 0) .i64 .i64 Try.underlying93 Try.underlying3 hi0 hz0 none 0 0 [] (run_firstCells_none w.drew i0.size 0 0 0) n (by omega) (by omega) (by omega) (by omega)
      (by rw [hz2]; omega) (by rw [Nat.zero_add]; exact growslice_fits (by omega) (by rw [hz2]; omega))
    rw [Nat.zero_add] at h
    have e : (Value.int .i8 0).cells = #[Value.int .i8 0] := rfl
    rw [e, zeros_one, zeros_one] at h
    simpa using h
  have hGn : n ≤ grownCap w n 0 119 := grownCap_ge w _ _ _
  have hGm := grownCap_le_maxLen w n 0 119 (by unfold maxLen; omega)
  obtain ⟨G, hG⟩ : ∃ G, grownCap w n 0 119 = G := ⟨_, rfl⟩
  rw [hG] at hrz hGn hGm
  obtain ⟨m, hm⟩ : ∃ m, G - n = m := ⟨_, rfl⟩
  rw [hm] at hrz
  have HM := Lib.hid hm
  have h1 : ¬ ((n : Int) < 0) := by omega
  have h4 : (n : Int) > 0 := by omega
  have hG63 : (G : Int) ≤ 9223372036854775807 := by unfold maxLen at hGm; omega
  clear hG hm hi0 hz0 hz1 hz2
  go_enter Try.func92, Try.ntmps92
  go_wp2_with (at_builtin; refine Lib.wpList_append_run _ rfl _ _ _ _ rfl _ _ rfl rfl _ _ (hrz _) ?_)
  all_goals (go_ret; exact ⟨G, hGn, hGm, m, Lib.hid HM.out.symm, rfl, rfl⟩)
theorem run_clear (g n m G : Nat) (h0 : 0 < n) (W : World) (ty : TypeId) (h : W.heap[g]? = some (.cells ((List.replicate n (Value.int .i8 0)).toArray ++ (List.replicate m (Value.int .i8 0)).toArray) 119 (0, 0))) :
    (Builtin.clear_ #[93] ty #[.slice (some ⟨g, 0, none⟩) n G]).run Try.prog W = .ok (.tuple #[]) W := by
  obtain ⟨i0, hi0, hz0, hz1, hz2⟩ := info_parts infoVer
  have hst := run_storeCells_at (P := Try.prog) g 0 119 (List.replicate n (Value.int .i8 0)) 0 _ W h (by simp) (by intro v hv; rw [List.eq_of_mem_replicate hv]; rfl)
  have e1 : ((((List.replicate n (Value.int .i8 0)).toArray ++ (List.replicate m (Value.int .i8 0)).toArray).toList.take (0 + 0) ++ List.replicate n (Value.int .i8 0) ++ ((List.replicate n (Value.int .i8 0)).toArray ++ (List.replicate m (Value.int .i8 0)).toArray).toList.drop (0 + 0 + (List.replicate n (Value.int .i8 0)).length))).toArray = (List.replicate n (Value.int .i8 0)).toArray ++ (List.replicate m (Value.int .i8 0)).toArray := by
    simp [List.drop_append]
  rw [e1, setRow_self W g _ _ (0, 0) h] at hst
  have hz : (Builtin.zeroCells (Value.int .i8 0).cells n).toList = List.replicate n (Value.int .i8 0) := by
    have e : (Value.int .i8 0).cells = #[Value.int .i8 0] := rfl
    rw [e, zeros_one]
  obtain ⟨n', rfl⟩ : ∃ n', n = n' + 1 := ⟨n - 1, by omega⟩
  simp [Builtin.clear_, run_underlying Try.underlying93, zeroValue, typeInfo, hi0, hz0, hz, hst]
theorem rowV_new {n m G g base : Nat} {w : World} (h : w.heap[g]? = some (.cells ((List.replicate n (Value.int .i8 0)).toArray ++ (List.replicate m (Value.int .i8 0)).toArray) 119 (0, 0))) (hm : m = G - n) (hn : n ≤ G) (hG : G ≤ maxLen) (hb : base ≤ g) : RowV base g n G (List.replicate n 0) w := by
  refine ⟨by simp, Or.inr ⟨g, G, _, rfl, hb, h, hn, hG, by simp; omega, by simp [List.take_append]⟩⟩
set_option maxRecDepth 100000 in
set_option maxHeartbeats 4000000 in
theorem start_calls (P : Nat) (o0 o1 oa ob : Value) (aa ab : Option Addr) (la lb ca cb : Nat) (w : World) (h0 : w.cell? ⟨P, 0, none⟩ = some oa) (h1 : w.cell? ⟨P, 1, none⟩ = some ob) (h2 : w.cell? ⟨P, 2, none⟩ = some (.slice none 0 0))
    (f0 : w.frozen? ⟨P, 0, none⟩ = false) (f1 : w.frozen? ⟨P, 1, none⟩ = false) (f2 : w.frozen? ⟨P, 2, none⟩ = false) (hla : 0 < la) (hlb : 0 < lb) (hla2 : la ≤ 200) (hlb2 : lb ≤ 200) :
    Calls Try.prog 71 #[.pointer (some ⟨P, 0, none⟩), .slice aa la ca, .slice ab lb cb] w fun e w' => ∃ G, e = .returned (.tuple #[]) ∧
      w'.cell? ⟨P, 0, none⟩ = some (.slice aa la ca) ∧ w'.cell? ⟨P, 1, none⟩ = some (.slice ab lb cb) ∧ w'.cell? ⟨P, 2, none⟩ = some (.slice (some ⟨w.heap.size, 0, none⟩) (2 * (la * lb)) G) ∧
      RowV w.heap.size w.heap.size (2 * (la * lb)) G (List.replicate (2 * (la * lb)) 0) w' ∧ Only w w' (fun b => b = P) := by
  obtain ⟨q, hq⟩ : ∃ q, 2 * (la * lb) = q := ⟨_, rfl⟩
  have hqb : q ≤ 80000 := by rw [← hq]; have := Nat.mul_le_mul hla2 hlb2; omega
  have hq0 : 0 < q := by rw [← hq]; have := Nat.mul_pos hla hlb; omega
  have hqi : 2 * (la : Int) * (lb : Int) = (q : Int) := by rw [← hq]; push_cast; rw [Int.mul_assoc]
  have hqa : (2 : Int) * (la : Int) ≤ 400 := by omega
  rw [hq]
  have hPb := block_of_cell h0
  go_enter Try.func71, Try.ntmps71
  go_wp2_with fail
  have e0 : ((w.setCell ⟨P, 0, none⟩ (.slice aa la ca)).setCell ⟨P, 1, none⟩ (.slice ab lb cb)).cell? ⟨P, 0, none⟩ = some (.slice aa la ca) := by
    rw [World.cell?_setCell_other _ _ _ _ (fun e => by injection e with _ e _; cases e)]
    exact World.cell?_setCell_same _ _ _ h0
  have e1 : ((w.setCell ⟨P, 0, none⟩ (.slice aa la ca)).setCell ⟨P, 1, none⟩ (.slice ab lb cb)).cell? ⟨P, 1, none⟩ = some (.slice ab lb cb) :=
    World.cell?_setCell_same _ _ _ ((World.cell?_setCell_other _ _ _ _ (fun e => by injection e with _ e _; cases e)).trans h1)
  have e2 : ((w.setCell ⟨P, 0, none⟩ (.slice aa la ca)).setCell ⟨P, 1, none⟩ (.slice ab lb cb)).cell? ⟨P, 2, none⟩ = some (.slice none 0 0) := by
    rw [World.cell?_setCell_other _ _ _ _ (fun e => by injection e with _ e _; cases e), World.cell?_setCell_other _ _ _ _ (fun e => by injection e with _ e _; cases e)]
    exact h2
  have e3 : ((w.setCell ⟨P, 0, none⟩ (.slice aa la ca)).setCell ⟨P, 1, none⟩ (.slice ab lb cb)).frozen? ⟨P, 2, none⟩ = false := by
    rw [World.frozen?_setCell, World.frozen?_setCell]; exact f2
  have e4 : ((w.setCell ⟨P, 0, none⟩ (.slice aa la ca)).setCell ⟨P, 1, none⟩ (.slice ab lb cb)).heap.size = w.heap.size := by simp
  have HO : Hid (Only w ((w.setCell ⟨P, 0, none⟩ (.slice aa la ca)).setCell ⟨P, 1, none⟩ (.slice ab lb cb)) (fun b => b = P)) := Lib.hid ((Only.of_set (F := fun b => b = P) _ rfl).trans (Only.of_set (F := fun b => b = P) _ rfl) (fun _ _ h => h))
  clear h0 h1 h2 f0 f1 f2
  refine (grow_calls q _ hq0 (by omega)).mono ?_
  generalize ((w.setCell ⟨P, 0, none⟩ (.slice aa la ca)).setCell ⟨P, 1, none⟩ (.slice ab lb cb)) = W0 at e0 e1 e2 e3 e4 HO ⊢
  rintro e w4 ⟨G, m, hG1, hG2, hm, rfl, hw4⟩
  rw [e4]
  have hb4 : Below W0.heap.size W0 w4 := by rw [hw4]; exact (below_drewN (Below.refl _ _) 1).alloc (Nat.le_refl _) _
  have hh4 : w4.heap[w.heap.size]? = some (.cells ((List.replicate q (Value.int .i8 0)).toArray ++ (List.replicate m (Value.int .i8 0)).toArray) 119 (0, 0)) := by
    rw [hw4, ← e4]
    exact heap_alloc_last W0.drew _
  have hs4 : w4.heap.size = w.heap.size + 1 := by rw [hw4, ← e4]; simp
  have e0 := (bcell hb4 _ _ (by omega)).trans e0
  have e1 := (bcell hb4 _ _ (by omega)).trans e1
  have e2 := (bcell hb4 _ _ (by omega)).trans e2
  have e3 := (hb4.frozen (p := ⟨P, 2, none⟩) (by rw [e4]; exact hPb)).trans e3
  have HO4 : Hid (Only w w4 (fun b => b = P)) := Lib.hid (HO.out.trans (Only.of_below hb4) (fun _ _ h => h))
  have hG63 : (G : Int) ≤ 9223372036854775807 := by unfold maxLen at hG2; omega
  have hqG : (q : Int) ≤ G := by omega
  clear hw4 hb4 HO
  have hne : w.heap.size ≠ P := by omega
  have hh5 : (w4.setCell ⟨P, 2, none⟩ (.slice (some ⟨w.heap.size, 0, none⟩) q G)).heap[w.heap.size]? = some (.cells ((List.replicate q (Value.int .i8 0)).toArray ++ (List.replicate m (Value.int .i8 0)).toArray) 119 (0, 0)) :=
    (Below.heap_setCell w4 ⟨P, 2, none⟩ _ w.heap.size hne).trans hh4
  have HCL := run_clear w.heap.size q m G hq0 (w4.setCell ⟨P, 2, none⟩ (.slice (some ⟨w.heap.size, 0, none⟩) q G)) 0 hh5
  have HR := Lib.hid (rowV_new (base := w.heap.size) hh5 hm.out hG1 hG2 (Nat.le_refl _))
  have HO5 : Hid (Only w (w4.setCell ⟨P, 2, none⟩ (.slice (some ⟨w.heap.size, 0, none⟩) q G)) (fun b => b = P)) := Lib.hid (HO4.out.trans (Only.of_set (F := fun b => b = P) _ rfl) (fun _ _ h => h))
  have e5 : Hid ((w4.setCell ⟨P, 2, none⟩ (.slice (some ⟨w.heap.size, 0, none⟩) q G)).cell? ⟨P, 0, none⟩ = some (.slice aa la ca)) := Lib.hid ((World.cell?_setCell_other _ _ _ _ (fun e => by injection e with _ e _; cases e)).trans e0)
  have e6 : Hid ((w4.setCell ⟨P, 2, none⟩ (.slice (some ⟨w.heap.size, 0, none⟩) q G)).cell? ⟨P, 1, none⟩ = some (.slice ab lb cb)) := Lib.hid ((World.cell?_setCell_other _ _ _ _ (fun e => by injection e with _ e _; cases e)).trans e1)
  have e7 : Hid ((w4.setCell ⟨P, 2, none⟩ (.slice (some ⟨w.heap.size, 0, none⟩) q G)).cell? ⟨P, 2, none⟩ = some (.slice (some ⟨w.heap.size, 0, none⟩) q G)) := Lib.hid (World.cell?_setCell_same _ _ _ e2)
  clear hh4 hh5 HO4 e0 e1
  go_wp2_with fail
  go_end0
  exact ⟨G, rfl, e5.out, e6.out, e7.out, HR.out, HO5.out⟩
end

section
open Go.RowKit
set_option linter.unusedVariables false
set_option linter.unusedSimpArgs false
theorem goodI_res (v : Value) (f : List Nz) (r : Bool) (hr : Hid (goodB f = r)) (w : World) (lo hi : Nat) (hh : hi ≤ w.heap.size) (hv : NodesZ w lo hi v f) :
    Calls Try.prog 48 #[.agg #[v]] w fun e w' => e = .returned (.bool r) ∧ Below w.heap.size w w' := by
  rw [← hr.out]
  exact goodI_calls v f w lo hi hh hv
set_option maxRecDepth 100000 in
set_option maxHeartbeats 2000000 in
theorem contest_bad (va vb : Value) (f g : List Nz) (r1 r2 : Bool) (h1 : Hid (goodB f = r1)) (h2 : Hid (goodB g = r2)) (hb : (r1 && r2) = false) (w : World) (lo hi lo' hi' : Nat) (hh : hi ≤ w.heap.size) (hh' : hi' ≤ w.heap.size) (hva : NodesZ w lo hi va f) (hvb : NodesZ w lo' hi' vb g) :
    Calls Try.prog 39 #[.agg #[va], .agg #[vb]] w fun e w' => e = .returned (.tuple #[.pointer none, .bool false]) ∧ Below w.heap.size w w' := by
  have HB0 := Lib.hid fun o o' => show Below w.heap.size w ((w.alloc o).alloc o') from ((Below.refl _ _).alloc (Nat.le_refl _) _).alloc (by simp) _
  have CA := Lib.hid fun (W : World) (hW : Below w.heap.size w W) => goodI_res va f r1 h1 W lo hi (Nat.le_trans hh hW.size) (hva.below hW hh)
  have CB := Lib.hid fun (W : World) (hW : Below w.heap.size w W) => goodI_res vb g r2 h2 W lo' hi' (Nat.le_trans hh' hW.size) (hvb.below hW hh')
  clear h1 h2 hva hvb
  go_enter Try.func39, Try.ntmps39
  go_wp2_with fail
  refine (CA.out _ (HB0.out _ _)).mono ?_
  rintro e w4 ⟨rfl, hb4⟩
  have k2 : w4.cell? ⟨w.heap.size + 1, 0, none⟩ = some vb := (bcell hb4 _ _ (by simp)).trans (by go_simp)
  have HB4 := Lib.hid (Below.trans (HB0.out _ _) (hb4.mono (by simp; omega)))
  clear hb4 CA
  cases r1 with
  | false =>
    go_wp2_with fail
    exact bodyPost_ret (v := .tuple #[.pointer none, .bool false]) (by simp [results, Try.results39, go_sem]) rfl ⟨rfl, HB4.out⟩
  | true =>
    obtain rfl : r2 = false := by simpa using hb
    go_wp2_with fail
    refine (CB.out _ HB4.out).mono ?_
    rintro e w5 ⟨rfl, hb5⟩
    have HB5 := Lib.hid (HB4.out.trans (hb5.mono HB4.out.size))
    clear hb5
    go_wp2_with fail
    exact bodyPost_ret (v := .tuple #[.pointer none, .bool false]) (by simp [results, Try.results39, go_sem]) rfl ⟨rfl, HB5.out⟩
theorem zeros_wn (A B : List Nd) (n : Nat) (hn : n = 2 * (A.length * B.length)) : Wn A B (List.replicate n 0) := by rw [hn]; exact Wn.zero A B
/-- a contest that is there, from a world on -/
def Held (w w' : World) (P : Nat) (A B : List Nd) (va vb : Value) : Prop := ∃ g n cap cs, Ct w' w.heap.size P g n cap A B va vb ∧ Wn A B cs ∧ RowV w.heap.size g n cap cs w' ∧ Below w.heap.size w w'
set_option maxRecDepth 100000 in
set_option maxHeartbeats 2000000 in
theorem contest_good (va vb : Value) (f g : List Nz) (h1 : goodB f = true) (h2 : goodB g = true) (w : World) (lo hi lo' hi' : Nat) (hh : hi ≤ w.heap.size) (hh' : hi' ≤ w.heap.size) (hva : NodesZ w lo hi va f) (hvb : NodesZ w lo' hi' vb g) :
    Calls Try.prog 39 #[.agg #[va], .agg #[vb]] w fun e w' => ∃ P, e = .returned (.tuple #[.pointer (some ⟨P, 0, none⟩), .bool true]) ∧ Held w w' P (f.map downN) (g.map downN) va vb := by
  obtain ⟨hf1, hf2, _⟩ := (goodB_iff f).1 h1
  obtain ⟨hg1, hg2, _⟩ := (goodB_iff g).1 h2
  have HNA : Hid (NodesZ w 0 w.heap.size va ((f.map downN).map upN)) := Lib.hid (by rw [hf2.up.1]; exact hva.wide (Nat.zero_le _) hh)
  have HNB : Hid (NodesZ w 0 w.heap.size vb ((g.map downN).map upN)) := Lib.hid (by rw [hg2.up.1]; exact hvb.wide (Nat.zero_le _) hh')
  have HB0 := Lib.hid fun o o' => show Below w.heap.size w ((w.alloc o).alloc o') from ((Below.refl _ _).alloc (Nat.le_refl _) _).alloc (by simp) _
  have CA := Lib.hid fun (W : World) (hW : Below w.heap.size w W) => goodI_res va f true (Lib.hid h1) W lo hi (Nat.le_trans hh hW.size) (hva.below hW hh)
  have CB := Lib.hid fun (W : World) (hW : Below w.heap.size w W) => goodI_res vb g true (Lib.hid h2) W lo' hi' (Nat.le_trans hh' hW.size) (hvb.below hW hh')
  obtain ⟨aa, ca, rfl⟩ : ∃ ao c, va = .slice ao f.length c := by obtain ⟨ao, c, e, _⟩ := hva; exact ⟨ao, c, e⟩
  obtain ⟨ab, cb, rfl⟩ : ∃ ao c, vb = .slice ao g.length c := by obtain ⟨ao, c, e, _⟩ := hvb; exact ⟨ao, c, e⟩
  have la0 := hf1.1
  have la1 := hf1.2.1
  have lb0 := hg1.1
  have lb1 := hg1.2.1
  clear h1 h2 hva hvb hf1 hf2 hg1 hg2
  go_enter Try.func39, Try.ntmps39
  go_wp2_with fail
  refine (CA.out _ (HB0.out _ _)).mono ?_
  rintro e w4 ⟨rfl, hb4⟩
  have k1 : w4.cell? ⟨w.heap.size, 0, none⟩ = some (.slice aa f.length ca) := (bcell hb4 _ _ (by simp; omega)).trans (by go_simp)
  have k2 : w4.cell? ⟨w.heap.size + 1, 0, none⟩ = some (.slice ab g.length cb) := (bcell hb4 _ _ (by simp)).trans (by go_simp)
  have HB4 := Lib.hid (Below.trans (HB0.out _ _) (hb4.mono (by simp; omega)))
  clear hb4 CA
  have b1 := block_of_cell k1
  have b2 := block_of_cell k2
  go_wp2_with fail
  refine (CB.out _ HB4.out).mono ?_
  rintro e w5 ⟨rfl, hb5⟩
  have k1 := (bcell hb5 _ _ b1).trans k1
  have k2 := (bcell hb5 _ _ b2).trans k2
  have HB5 := Lib.hid (HB4.out.trans (hb5.mono HB4.out.size))
  clear hb5 b1 b2
  have hba : Below w5.heap.size w5 (w5.alloc (.cells #[.slice none 0 0, .slice none 0 0, .slice none 0 0] 95)) := (Below.refl _ _).alloc (Nat.le_refl _) _
  have d1 := (bcell hba _ _ (block_of_cell k1)).trans k1
  have d2 := (bcell hba _ _ (block_of_cell k2)).trans k2
  have p0 : (w5.alloc (.cells #[.slice none 0 0, .slice none 0 0, .slice none 0 0] 95)).cell? ⟨w5.heap.size, 0, none⟩ = some (.slice none 0 0) := by go_simp
  have p1 : (w5.alloc (.cells #[.slice none 0 0, .slice none 0 0, .slice none 0 0] 95)).cell? ⟨w5.heap.size, 1, none⟩ = some (.slice none 0 0) := by go_simp
  have p2 : (w5.alloc (.cells #[.slice none 0 0, .slice none 0 0, .slice none 0 0] 95)).cell? ⟨w5.heap.size, 2, none⟩ = some (.slice none 0 0) := by go_simp
  have q0 : (w5.alloc (.cells #[.slice none 0 0, .slice none 0 0, .slice none 0 0] 95)).frozen? ⟨w5.heap.size, 0, none⟩ = false := by go_simp
  have q1 : (w5.alloc (.cells #[.slice none 0 0, .slice none 0 0, .slice none 0 0] 95)).frozen? ⟨w5.heap.size, 1, none⟩ = false := by go_simp
  have q2 : (w5.alloc (.cells #[.slice none 0 0, .slice none 0 0, .slice none 0 0] 95)).frozen? ⟨w5.heap.size, 2, none⟩ = false := by go_simp
  have HB6 : Hid (Below w.heap.size w (w5.alloc (.cells #[.slice none 0 0, .slice none 0 0, .slice none 0 0] 95))) := Lib.hid (HB5.out.trans (hba.mono HB5.out.size))
  have hs6 : (w5.alloc (.cells #[.slice none 0 0, .slice none 0 0, .slice none 0 0] 95)).heap.size = w5.heap.size + 1 := by simp
  have hs5 := HB5.out.size
  have CS := Lib.hid (start_calls w5.heap.size (.bool true) (.bool true) _ _ aa ab f.length g.length ca cb _ p0 p1 p2 q0 q1 q2 la0 lb0 (by omega) (by omega))
  clear hba p0 p1 p2 q0 q1 q2 CB
  go_wp2_with fail
  refine CS.out.mono ?_
  rintro e w7 ⟨G, rfl, c0, c1, c2, hr, ho⟩
  have HH : Hid (Held w w7 w5.heap.size (f.map downN) (g.map downN) (.slice aa f.length ca) (.slice ab g.length cb)) := Lib.hid (by
    have hs7 := ho.size
    rw [hs6] at c2 hr hs7
    have hbx : Below w.heap.size w w7 := HB6.out.trans (ho.below (by rw [hs6]; omega) (fun b e => by omega))
    have el : 2 * (f.length * g.length) = 2 * ((f.map downN).length * (g.map downN).length) := by simp
    have hn := Below.sameIn (lo := 0) hbx (Nat.le_refl _)
    refine ⟨w5.heap.size + 1, _, G, _, ⟨c0, c1, c2, HNA.out.keep hn, HNB.out.keep hn, by omega, hr.lt.2, by omega⟩, zeros_wn _ _ _ el, World.ownsRow.mono hr (by omega), hbx⟩)
  clear c0 c1 c2 hr ho
  go_wp2_with fail
  exact bodyPost_ret (v := .tuple #[.pointer (some ⟨w5.heap.size, 0, none⟩), .bool true]) (by simp [results, Try.results39, go_sem]) rfl ⟨_, rfl, HH.out⟩
end

section
open Go.RowKit
set_option linter.unusedVariables false
set_option linter.unusedSimpArgs false
/-- who wins the difference of two games -/
def diffF (f g : List Nz) (l : Bool) : Bool := winF (f.map downN) (g.map downN) (f.length - 1) (g.length - 1) l
theorem held1 {w w' : World} {b : Nat} {v : Value} (h : w.cell? ⟨b, 0, none⟩ = some v) (hb : b < w.heap.size) (hB : Below w.heap.size w w') : w'.cell? ⟨b, 0, none⟩ = some v ∧ Below w.heap.size w w' := ⟨(bcell hB b 0 hb).trans h, hB⟩
end

section
open Go.RowKit
set_option linter.unusedVariables false
set_option linter.unusedSimpArgs false
theorem good_zero : goodB [([], [])] = true := by decide
end

section
open Go.RowKit
set_option linter.unusedVariables false
set_option linter.unusedSimpArgs false
theorem infoNodeI : (Try.prog.info? 57).map (fun i => (i.zero, i.size, i.bytes)) = some (some (.agg #[.slice none 0 0, .slice none 0 0]), 2, 48) := by kernel_rfl
theorem nothing_made (w w1 : World) (hown : w1.ownsRow w.heap.size 57 2 (.slice (some ⟨(w.alloc (.cells #[.slice none 0 0] 28)).heap.size, 0, none⟩) 1 1) 1 (madeCells (Value.agg #[.slice none 0 0, .slice none 0 0]).cells (1 * 2)).toList)
    (hg : (w.alloc (.cells #[.slice none 0 0] 28)).grownBy w1 none) :
    w1.cell? ⟨w.heap.size, 0, none⟩ = some (.slice none 0 0) ∧ w1.frozen? ⟨w.heap.size, 0, none⟩ = false ∧
    Hid ((w1.setCell ⟨w.heap.size, 0, none⟩ (.slice (some ⟨w.heap.size + 1, 0, none⟩) 1 1)).cell? ⟨w.heap.size, 0, none⟩ = some (.slice (some ⟨w.heap.size + 1, 0, none⟩) 1 1) ∧ CopyOf (w1.setCell ⟨w.heap.size, 0, none⟩ (.slice (some ⟨w.heap.size + 1, 0, none⟩) 1 1)) (.slice (some ⟨w.heap.size + 1, 0, none⟩) 1 1) [([], [])]) ∧
    Hid (Below w.heap.size w (w1.setCell ⟨w.heap.size, 0, none⟩ (.slice (some ⟨w.heap.size + 1, 0, none⟩) 1 1))) := by
  have hs : (w.alloc (.cells #[.slice none 0 0] 28)).heap.size = w.heap.size + 1 := by simp
  rw [hs] at hown
  have hblk := hg.block w.heap.size (by rw [hs]; omega) (by simp)
  have h0 : w1.cell? ⟨w.heap.size, 0, none⟩ = some (.slice none 0 0) := (World.cell?_of_block (a := ⟨w.heap.size, 0, none⟩) hblk).trans (by go_simp)
  have hf : w1.frozen? ⟨w.heap.size, 0, none⟩ = false := (World.frozen?_of_block (a := ⟨w.heap.size, 0, none⟩) hblk).trans (by go_simp)
  have c0 : w1.cell? ⟨w.heap.size + 1, 0, none⟩ = some (.slice none 0 0) := (World.ownsRow.cellAt hown 0 (by omega)).trans (by simp [madeCells, Value.cells])
  have c1 : w1.cell? ⟨w.heap.size + 1, 1, none⟩ = some (.slice none 0 0) := (World.ownsRow.cellAt hown 1 (by omega)).trans (by simp [madeCells, Value.cells])
  have hb : Below w.heap.size w w1 := ((Below.refl _ _).alloc (Nat.le_refl _) _).grown hg (by simp) (fun k hk => by cases hk)
  have ho : ∀ o, (w1.setCell ⟨w.heap.size, 0, none⟩ (.slice (some ⟨w.heap.size + 1, 0, none⟩) 1 1)).cell? ⟨w.heap.size + 1, o, none⟩ = w1.cell? ⟨w.heap.size + 1, o, none⟩ := fun o => World.cell?_setCell_other _ _ _ _ (fun e => by injection e with e _ _; omega)
  have hlt := block_of_cell c0
  refine ⟨h0, hf, Lib.hid ⟨World.cell?_setCell_same _ _ _ h0, 0, _, Nat.le_refl _, some ⟨w.heap.size + 1, 0, none⟩, 1, rfl, ⟨by simp, by omega⟩, fun j nd hnd => ?_⟩, Lib.hid ⟨hb.os, hb.tape, hb.output, by simpa using hb.size, fun k hk => ?_⟩⟩
  · have hj : j = 0 := by have := get_lt hnd; simp at this; omega
    subst hj
    simp at hnd
    subst hnd
    have hnil : ∀ W lo hi, IntsZ W lo hi (.slice none 0 0) [] := fun W lo hi => ⟨none, 0, rfl, ⟨by simp, by omega⟩, fun j x hx => by simp at hx⟩
    exact ⟨w.heap.size + 1, 0, _, _, rfl, Nat.zero_le _, by simpa using hlt, (ho _).trans c0, (ho _).trans c1, hnil _ _ _, hnil _ _ _⟩
  · exact (Below.heap_setCell w1 ⟨w.heap.size, 0, none⟩ _ k (by simp; omega)).trans (hb.block k hk)
set_option maxRecDepth 100000 in
theorem nothing_calls (w : World) : Calls Try.prog 34 #[] w fun e w' => ∃ v, e = .returned (.agg #[v]) ∧ CopyOf w' v [([], [])] ∧ Below w.heap.size w w' := by
  obtain ⟨i0, hi0, hz0, hz1, hz2⟩ := info_parts infoNodeI
  go_enter Try.func34, Try.ntmps34
  go_wp2_with (at_make; refine wpList_make_full _ rfl _ _ 26 rfl w.heap.size 57 i0 (.agg #[.slice none 0 0, .slice none 0 0]) 2 Try.underlying26 hi0 hz0 hz1 _ _ _ _ 1 rfl rfl (by first | rfl | (simp; done)) (by first | rfl | (simp; done)) (by rw [hz2]; omega) (by unfold maxLen; omega) (by simp) ?_; intro w1 hown hg; obtain ⟨h0, hf, HN, HB⟩ := nothing_made w w1 hown hg; clear hown hg)
  exact bodyPost_ret (v := .agg #[.slice (some ⟨w.heap.size + 1, 0, none⟩) 1 1]) (by simp [results, Try.results34, go_sem, HN.out.1]) rfl ⟨_, rfl, HN.out.2, HB.out⟩
theorem held_below {w w1 : World} {P : Nat} {A B : List Nd} {va vb : Value} (h : Held w w1 P A B va vb) : Below w.heap.size w w1 := by obtain ⟨_, _, _, _, _, _, _, hb⟩ := h; exact hb
end

section
open Go.RowKit
set_option linter.unusedVariables false
set_option linter.unusedSimpArgs false
/-- the moves of the first game that win the difference, among the first of the options -/
def movesG (A B : List Nd) (Lo : List Nat) (l : Bool) (k : Nat) : List Int := ((List.range k).filter (fun i => !winF A B (Lo.getD i 0) (B.length - 1) (!l))).map (fun i : Nat => (i : Int))
theorem movesG_succ (A B : List Nd) (Lo : List Nat) (l : Bool) (k o : Nat) (r : Bool) (ho : Lo[k]? = some o) (hr : winF A B o (B.length - 1) (!l) = r) : movesG A B Lo l (k + 1) = movesG A B Lo l k ++ if r then [] else [(k : Int)] := by
  unfold movesG
  have e : Lo.getD k 0 = o := by rw [List.getD_eq_getElem?_getD, ho]; rfl
  rw [List.range_succ, List.filter_append, List.map_append]
  congr 1
  rw [List.filter_cons, List.filter_nil, e, hr]
  cases r <;> rfl
theorem movesG_len (A B : List Nd) (Lo : List Nat) (l : Bool) (k : Nat) : (movesG A B Lo l k).length ≤ k := by
  unfold movesG
  rw [List.length_map]
  exact Nat.le_trans (List.length_filter_le _ _) (by simp)
/-- the moves that win, among the first of the options -/
def movesK (A : List Nd) (Lo : List Nat) (l : Bool) (k : Nat) : List Int := ((List.range k).filter (fun i => !soloF A (Lo.getD i 0) (!l))).map (fun i : Nat => (i : Int))
theorem movesK_succ (A : List Nd) (Lo : List Nat) (l : Bool) (k o : Nat) (r : Bool) (ho : Lo[k]? = some o) (hr : soloF A o (!l) = r) : movesK A Lo l (k + 1) = movesK A Lo l k ++ if r then [] else [(k : Int)] := by
  unfold movesK
  have e : Lo.getD k 0 = o := by rw [List.getD_eq_getElem?_getD, ho]; rfl
  rw [List.range_succ, List.filter_append, List.map_append]
  congr 1
  rw [List.filter_cons, List.filter_nil, e, hr]
  cases r <;> rfl
theorem movesK_len (A : List Nd) (Lo : List Nat) (l : Bool) (k : Nat) : (movesK A Lo l k).length ≤ k := by
  unfold movesK
  rw [List.length_map]
  exact Nat.le_trans (List.length_filter_le _ _) (by simp)
theorem own_eqv {g q n c : Nat} (e : (Value.slice (some ⟨g, 0, none⟩) n c).ownBlock = some q) : g = q := by injection e
/-- what WinningMoves lists -/
def movesV (f : List Nz) (l : Bool) : List Int := if goodB f then movesK (f.map downN) (optsD (f.map downN) (f.length - 1) l) l (optsD (f.map downN) (f.length - 1) l).length else []
theorem movesV_good {f : List Nz} (h : goodB f = true) (l : Bool) : movesV f l = movesK (f.map downN) (optsD (f.map downN) (f.length - 1) l) l (optsD (f.map downN) (f.length - 1) l).length := by unfold movesV; rw [h]; rfl
theorem Ct.far {w w' : World} {base P g n cap N : Nat} {A B : List Nd} {va vb : Value} (h : Ct w base P g n cap A B va vb) (ho : Only w w' (fun b => N ≤ b)) (hP : P < N) (hg : g < N) (hN : N ≤ w.heap.size) : Ct w' base P g n cap A B va vb := by
  have hPb := block_of_cell h.c0
  have h1 := h.hg
  have hs : SameIn 0 base w w' := ho.sameIn (by omega) (fun b hb e => by omega)
  have hc : ∀ o, w'.cell? ⟨P, o, none⟩ = w.cell? ⟨P, o, none⟩ := fun o => ho.cell hPb (by omega)
  exact ⟨(hc 0).trans h.c0, (hc 1).trans h.c1, (hc 2).trans h.c2, h.na.keep hs, h.nb.keep hs, h.hg, Nat.lt_of_lt_of_le h.hgl ho.size, h.hP⟩
theorem Asked.far {base g n cap N : Nat} {A B : List Nd} {w w1 w2 : World} (h : Asked base g n cap A B w w1) (ho : Only w1 w2 (fun b => N ≤ b)) (hg : g < N) (hN : w.heap.size ≤ N) : Asked base g n cap A B w w2 := by
  obtain ⟨cs, k1, k2, k3⟩ := h
  exact ⟨cs, k1, own_only k2 ho (fun b e h2 => by have e2 := own_eqv e; omega), k3.trans ho (fun i h1 h2 => by omega)⟩
theorem Held.below {w w1 w2 : World} {P : Nat} {A B : List Nd} {va vb : Value} (h : Held w w1 P A B va vb) (hb : Below w1.heap.size w1 w2) : Held w w2 P A B va vb := by
  obtain ⟨gg, n, cap, cs, hc, hw, hrow, hb0⟩ := h
  exact ⟨gg, n, cap, cs, hc.below hb, hw, hrow.below hb, hb0.trans (hb.mono hb0.size)⟩
/-- the form's last node, cell by cell -/
theorem last_at {w : World} {lo hi : Nat} {va : Value} {f : List Nz} (hva : NodesZ w lo hi va f) (h1 : goodB f = true) :
    ∃ b off c v1 v2 n1 n2, va = .slice (some ⟨b, off, none⟩) f.length c ∧ b < hi ∧ w.cell? ⟨b, off + (f.length - 1) * 2, none⟩ = some v1 ∧ w.cell? ⟨b, off + (f.length - 1) * 2 + 1, none⟩ = some v2 ∧ IntsZ w lo hi v1 (upL n1) ∧ IntsZ w lo hi v2 (upL n2) ∧
      optsD (f.map downN) (f.length - 1) true = n1 ∧ optsD (f.map downN) (f.length - 1) false = n2 ∧ n1.length ≤ 24 ∧ n2.length ≤ 24 := by
  obtain ⟨hf1, hf2, _⟩ := (goodB_iff f).1 h1
  have e1 : (f.map downN).length = f.length := by simp
  have h0 := hf1.1
  obtain ⟨nd, hnd⟩ := lt_get (l := f.map downN) (i := f.length - 1) (by rw [e1]; omega)
  have hl : nd.1.length ≤ 24 ∧ nd.2.length ≤ 24 := by
    obtain ⟨x, hx, rfl⟩ := List.mem_map.1 (List.mem_of_getElem? hnd)
    have := hf1.2.2 x hx
    simpa [downN, downL] using this
  obtain ⟨b, off, c, v1, v2, e, hb, c1, c2, i1, i2⟩ := nodes_at (by rw [hf2.up.1]; exact hva) hnd
  rw [e1] at e
  exact ⟨b, off, c, v1, v2, nd.1, nd.2, e, hb, c1, c2, i1, i2, by unfold optsD; rw [nodeD_at hnd]; rfl, by unfold optsD; rw [nodeD_at hnd]; rfl, hl⟩
end

section
open Go.RowKit
set_option linter.unusedVariables false
set_option linter.unusedSimpArgs false
set_option maxRecDepth 100000 in
set_option maxHeartbeats 4000000 in
theorem movesC_calls (base P gg n cap : Nat) (A B : List Nd) (va vb : Value) (hA : Under A) (hB : Under B) (hAl : A.length ≤ 1000) (hBl : B.length ≤ 1000) (h0 : 0 < A.length) (h1 : 0 < B.length) (l : Bool) (Lo : List Nat) (ms : List Int) (hLo : Hid (optsD A (A.length - 1) l = Lo)) (hL24 : Lo.length ≤ 1000)
    (HM : Hid (movesG A B Lo l Lo.length = ms)) (w : World) (h : Ct w base P gg n cap A B va vb) (cs : List Int) (hw : Wn A B cs) (hr : RowV base gg n cap cs w) :
    Calls Try.prog 40 #[.pointer (some ⟨P, 0, none⟩), .bool l] w fun e w' => ∃ v, e = .returned v ∧ OwnI w' w.heap.size v ms ∧ Asked base gg n cap A B w w' := by
  obtain ⟨i0, hi0, hz0, hz1, hz2⟩ := info_parts infoIntA
  obtain ⟨x, hx⟩ := lt_get (l := A) (i := A.length - 1) (by omega)
  obtain ⟨b, off, cc, v1, v2, rfl, hbh, p1, p2, i1, i2⟩ := nodes_at h.na hx
  obtain ⟨a2, b2, rfl⟩ : ∃ ao c, vb = .slice ao B.length c := by obtain ⟨ao, c, e, _⟩ := h.nb; rw [List.length_map] at e; exact ⟨ao, c, e⟩
  have hbz := h.hg
  have hbz2 := h.hgl
  have k0 := h.c0
  have k1 := h.c1
  have hPl := block_of_cell k0
  have HC := Lib.hid h
  have L1 : Hid (optsD A (A.length - 1) l = if l then x.1 else x.2) := Lib.hid (by unfold optsD; rw [nodeD_at hx])
  have HL1 : Hid (∀ o, o ∈ Lo → o < A.length) := Lib.hid (fun o ho => by rw [← hLo.out] at ho; have := optsD_lt hA ho; omega)
  have CW : Hid (∀ (o : Nat), o < A.length → ∀ (r : Bool), winF A B o (B.length - 1) (!l) = r → ∀ W, Ct W base P gg n cap A B (.slice (some ⟨b, off, none⟩) A.length cc) (.slice a2 B.length b2) → Asked base gg n cap A B w W → Calls Try.prog 72 #[.pointer (some ⟨P, 0, none⟩), .int .i64 o, .int .i64 (B.length - 1 : Nat), .bool (!l)] W fun e w' => e = .returned (.bool r) ∧ Asked base gg n cap A B W w') := Lib.hid (fun o ho r hr W hcW haW => by
    obtain ⟨cs', h1', h2, h3⟩ := haW
    have C := wins_calls base P gg n cap A B _ _ hA hB hAl hBl (o + (B.length - 1) + 1) o (B.length - 1) (!l) cs' W (by omega) ho (by omega) hcW h1' h2
    rw [hr] at C
    exact C)
  have e1 : (A.length : Int) - 1 = ((A.length - 1 : Nat) : Int) := by omega
  have e2 : (B.length : Int) - 1 = ((B.length - 1 : Nat) : Int) := by omega
  have q1 : (A.length : Int) ≤ 1000 := by omega
  have q2 : (B.length : Int) ≤ 1000 := by omega
  have w1 : IntKind.i64.wrap ((A.length : Int) - 1) = ((A.length - 1 : Nat) : Int) := by rw [IntWalk.i64_in _ (by omega), e1]
  have w2 : IntKind.i64.wrap ((B.length : Int) - 1) = ((B.length - 1 : Nat) : Int) := by rw [IntWalk.i64_in _ (by omega), e2]
  have q3 : ((A.length - 1 : Nat) : Int) < A.length := by omega
  have hBL : Hid (1 ≤ B.length) := Lib.hid h1
  have HW0 : Hid (∀ W, Below w.heap.size w W → Asked base gg n cap A B w W) := Lib.hid (fun W hW => ⟨cs, hw, hr.below hW, Only.of_below hW⟩)
  have hI1 := Lib.hid i1
  have hI2 := Lib.hid i2
  obtain ⟨vo, hvo, hio⟩ : ∃ vo, (if l then v1 else v2) = vo ∧ IntsZ w 0 base vo (upL Lo) := by
    rw [← hLo.out, L1.out]
    cases l with
    | true => exact ⟨v1, rfl, hI1.out⟩
    | false => exact ⟨v2, rfl, hI2.out⟩
  obtain ⟨ao, co, rfl, hco⟩ := ints_len hio
  have HIW := Lib.hid hio
  have CO := Lib.hid fun W => (options_calls v1 v2 l W).mono fun e w' hp => (by rw [← hvo]; exact hp : e = .returned (.slice ao Lo.length co) ∧ Below W.heap.size W w')
  clear hvo hio
  clear h hw hr hA hB hx i1 i2 e1 e2
  go_enter Try.func40, Try.ntmps40
  have hbd : Below w.heap.size w w.drew := below_drewN (Below.refl _ _) 1
  have HBD := Lib.hid hbd
  clear hbd
  go_upto_region 2 with fail
  go_cut [21, 22, 23] (fun s21 s22 s23 wx => s21 = .slice ao Lo.length co ∧ s22 = .int .i64 Lo.length ∧ s23 = .int .i64 0 ∧ Below w.heap.size w wx)
  case first =>
    go_region_with (go_at_call 67; (with_reducible refine (CO.out _).mono ?_); rintro e wc ⟨rfl, hb⟩)
    all_goals
      go_wp2_with fail
      go_meet
      exact ⟨rfl, rfl, rfl, HBD.out.trans (hb.mono (Nat.le_refl _))⟩
  case rest =>
    obtain ⟨rfl, rfl, rfl, hb⟩ := hcut
    have HBC := Lib.hid hb
    have HC1 := Lib.hid (HC.out.below HBC.out)
    have HA0 := Lib.hid (HW0.out wc HBC.out)
    have HIO := Lib.hid (HIW.out.below HBC.out (by omega))
    have hsz0 := HBC.out.size
    have HO0 : Hid (OwnI wc w.heap.size (.slice none 0 0) (movesG A B Lo l 0)) := Lib.hid (OwnI.nil _ _)
    clear hb p1 p2 k0 k1 hLo L1 HC HW0 HBD hI1 hI2 HIW CO
    go_wp2
    go_loopw [5, 23] (fun q i wr => ∃ k : Nat, k ≤ Lo.length ∧ i = .int .i64 k ∧ Hid (OwnI wr w.heap.size q (movesG A B Lo l k)) ∧ Hid (Asked base gg n cap A B w wr) ∧ Hid (Ct wr base P gg n cap A B (.slice (some ⟨b, off, none⟩) A.length cc) (.slice a2 B.length b2)) ∧ Hid (IntsZ wr 0 base (.slice ao Lo.length co) (upL Lo)) ∧ w.heap.size ≤ wr.heap.size) (fun _ i _ => Lo.length - (intOf i).toNat)
    case atStart => exact ⟨0, Nat.zero_le _, rfl, HO0, HA0, HC1, HIO, hsz0⟩
    case round =>
      obtain ⟨k, hk, rfl, hown, ha, hc, hio, hsz⟩ := hrel
      clear HO0 HA0 HC1 HIO HBC hsz0
      by_cases hlt : k < Lo.length
      · obtain ⟨o, ho⟩ := lt_get hlt
        have hoi := HL1.out o (List.mem_of_getElem? ho)
        obtain ⟨b', off', rfl, hbb, hcell⟩ := ints_at hio.out ho
        obtain ⟨r, hr⟩ : ∃ r, winF A B o (B.length - 1) (!l) = r := ⟨_, rfl⟩
        have HS := Lib.hid (movesG_succ A B Lo l k o r ho hr)
        have C := Lib.hid (fun W (hW : Below wr.heap.size wr W) => CW.out o hoi r hr W (hc.out.below hW) (ha.out.below hW))
        have k1 := hc.out.c1
        clear ho hr
        have b0 : (0 : Int) ≤ k := by omega
        have b1' : (k : Int) < Lo.length := by omega
        cases r with
        | true =>
          have HS2 : Hid (movesG A B Lo l (k + 1) = movesG A B Lo l k) := Lib.hid (by rw [HS.out]; simp)
          clear HS
          go_wp2_with fail
          refine (C.out _ (Below.refl _ _)).mono ?_
          rintro e w2 ⟨rfl, ha2⟩
          have ho2 := ha2.only
          have A2 := Lib.hid (ha.out.trans ha2)
          have C2 := Lib.hid (hc.out.only ho2)
          have I2 := Lib.hid (hio.out.keep (ha2.same hbz (by omega)))
          have O2 : Hid (OwnI w2 w.heap.size u5 (movesG A B Lo l (k + 1))) := Lib.hid (by rw [HS2.out]; exact hown.out.only ho2 (fun g h e => by have := hown.out.lt g h; omega))
          have hs2 := ho2.size
          clear ha2 ho2 hown ha hc hio C HS2 k1
          go_wp2_with fail
          go_roundw
          case rel => exact ⟨k + 1, by omega, by go_num, O2, A2, C2, I2, by omega⟩
          case measure => simp [intOf]; omega
        | false =>
          have HS2 : Hid (movesG A B Lo l (k + 1) = movesG A B Lo l k ++ [(k : Int)]) := Lib.hid (by rw [HS.out]; simp)
          clear HS
          go_wp2_with fail
          refine (C.out _ (Below.refl _ _)).mono ?_
          rintro e w2 ⟨rfl, ha2⟩
          have ho2 := ha2.only
          have A2 := Lib.hid (ha.out.trans ha2)
          have C2 := Lib.hid (hc.out.only ho2)
          have I2 := Lib.hid (hio.out.keep (ha2.same hbz (by omega)))
          have O2 : Hid (OwnI w2 w.heap.size u5 (movesG A B Lo l k)) := Lib.hid (hown.out.only ho2 (fun g h e => by have := hown.out.lt g h; omega))
          have hs2 := ho2.size
          have hml := movesG_len A B Lo l k
          clear ha2 ho2 hown ha hc hio C k1
          go_wp2_with (at_builtin; refine wpList_append_own_at _ rfl _ _ 34 rfl w.heap.size 3 i0 (.int .i64 0) 1 8 Try.underlying34 hi0 hz0 hz1 hz2 rfl (by decide) _ _ _ rfl (World.ownsRow.alloc O2.out _) ⟨w2.heap.size, 0, none⟩ 1 1 [.int .i64 (k : Int)] rfl rfl ?e1 ?e2 ?e3 ?e4 ?e5 ?_)
          case e1 => exact World.news_of_block (heap_alloc_new _ _)
          case e2 => first | rfl | (intro u hu; simp at hu; subst hu; rfl)
          case e3 => unfold maxLen; omega
          case e4 => omega
          case e5 => simp; omega
          intro v6 w6 hown6 hgrow6 hnil6 hat6
          have O6 : Hid (OwnI w6 w.heap.size v6 (movesG A B Lo l (k + 1))) := Lib.hid (by rw [HS2.out]; unfold OwnI; rw [List.map_append, List.length_append]; exact hown6)
          have hfar : Only w2 w6 (fun b => w.heap.size ≤ b) := (Only.of_below (F := fun b => w.heap.size ≤ b) ((Below.refl _ _).alloc (Nat.le_refl _) _)).trans (Only.of_grown (F := fun b => w.heap.size ≤ b) hgrow6 (fun g e => (O2.out.lt g e).1)) (fun _ _ h => h)
          have A6 := Lib.hid (A2.out.far hfar hbz2 (Nat.le_refl _))
          have C6 := Lib.hid (C2.out.far hfar hPl hbz2 (by omega))
          have I6 := Lib.hid (I2.out.keep (hfar.sameIn (hi := base) (by omega) (fun b hb e => by omega)))
          have hs6 := hfar.size
          clear hown6 hgrow6 hnil6 hat6 hfar A2 C2 I2 O2 HS2
          go_wp2_with fail
          go_roundw
          case rel => exact ⟨k + 1, by omega, by go_num, O6, A6, C6, I6, by omega⟩
          case measure => simp [intOf]; omega
      · have hke : k = Lo.length := by omega
        subst hke
        rw [HM.out] at hown
        clear hc hio HM HL1 CW
        go_wp2_with fail
        go_ret
        exact ⟨_, rfl, hown.out, ha.out⟩
end

section
open Go.RowKit
set_option linter.unusedVariables false
set_option linter.unusedSimpArgs false
set_option maxRecDepth 100000 in
set_option maxHeartbeats 4000000 in
theorem winningI_calls (va : Value) (f : List Nz) (l ok : Bool) (ms : List Int) (hok : Hid (goodB f = ok)) (hm : Hid (movesV f l = ms)) (w : World) (lo hi : Nat) (hh : hi ≤ w.heap.size) (hva : NodesZ w lo hi va f) :
    Calls Try.prog 14 #[.agg #[va], .bool l] w fun e w' => ∃ v, e = .returned (.tuple #[v, .bool ok]) ∧ OwnI w' w.heap.size v ms ∧ Below w.heap.size w w' := by
  obtain ⟨i0, hi0, hz0, hz1, hz2⟩ := info_parts infoIntA
  have HB0 := Lib.hid fun o => show Below w.heap.size w (w.alloc o) from ((Below.refl _ _).alloc (Nat.le_refl _) _)
  have HVA := Lib.hid fun (W : World) (hW : Below w.heap.size w W) => hva.below hW hh
  clear hva
  cases ok with
  | false =>
    obtain rfl : ms = [] := by rw [← hm.out]; unfold movesV; rw [hok.out]; rfl
    have C := Lib.hid fun (W : World) (vb : Value) (hW : Below w.heap.size w W) (hb : CopyOf W vb [([], [])]) => show Calls Try.prog 39 #[.agg #[va], .agg #[vb]] W fun e w' => e = .returned (.tuple #[.pointer none, .bool false]) ∧ Below W.heap.size W w' from by
      obtain ⟨lo', hi', hh', hvb⟩ := hb
      exact contest_bad va vb f [([], [])] false true hok (Lib.hid good_zero) rfl W lo hi lo' hi' (Nat.le_trans hh hW.size) hh' (HVA.out W hW) hvb
    go_enter Try.func14, Try.ntmps14
    have k0 : (w.alloc (.cells #[va] 28)).cell? ⟨w.heap.size, 0, none⟩ = some va := by go_simp
    have hS := HB0.out (.cells #[va] 28)
    have hlt0 := block_of_cell k0
    go_upto_region 1 with fail
    generalize (w.alloc (.cells #[va] 28)) = W1 at k0 hS hlt0
    have HS := Lib.hid hS
    have hbd : Below W1.heap.size W1 W1.drew := below_drewN (Below.refl _ _) 1
    have hS0 := held1 k0 hlt0 hbd
    clear hS HB0 hok hm
    go_region_held3 (fun w' : World => w'.cell? ⟨w.heap.size, 0, none⟩ = some va ∧ Below W1.heap.size W1 w') (first | exact hS0 | (go_split_ands; exact ⟨‹_›, ‹_›⟩) | exact held1 k0 hlt0 hbB | exact held1 k0 hlt0 hbA) (first
      | (go_at_call 39; (with_reducible refine (C.out wa _ (HS.out.trans (hbA.mono HS.out.size)) hca).mono ?_); rintro e wb ⟨rfl, hbb⟩; have hbB := hbA.trans (hbb.mono hbA.size))
      | (go_at_call 34; (with_reducible refine (nothing_calls _).mono ?_); rintro e wa ⟨vz, rfl, hca, hba⟩; have hbA := hbd.trans (hba.mono hbd.size)))
    all_goals
      rename_i hH
      have HBB : Hid (Below w.heap.size w wb) := Lib.hid (HS.out.trans (hbB.mono HS.out.size))
      clear hH hca C hbB hbA hba hbb hbd hS0 k0
      have HBE : Hid (Below w.heap.size w (wb.alloc (.cells #[] 3))) := Lib.hid (HBB.out.alloc HBB.out.size _)
      have HOE : Hid (OwnI (wb.alloc (.cells #[] 3)) w.heap.size (.slice (some ⟨wb.heap.size, 0, none⟩) 0 0) []) := Lib.hid (World.ownsRow_lit (base := w.heap.size) (e := 3) (size := 1) wb #[] 0 HBB.out.size (by unfold maxLen; omega) rfl)
      go_wp2_with fail
      exact bodyPost_ret (v := .tuple #[.slice (some ⟨wb.heap.size, 0, none⟩) 0 0, .bool false]) (by simp [results, Try.results14, go_sem]) rfl ⟨_, rfl, HOE.out, HBE.out⟩
  | true =>
    have hg := hok.out
    have h0 := ((goodB_iff f).1 hg).1.1
    have h120 := ((goodB_iff f).1 hg).1.2.1
    have HM : Hid (movesK (f.map downN) (optsD (f.map downN) (f.length - 1) l) l (optsD (f.map downN) (f.length - 1) l).length = ms) := Lib.hid (by rw [← movesV_good hg]; exact hm.out)
    have C := Lib.hid fun (W : World) (vb : Value) (hW : Below w.heap.size w W) (hb : CopyOf W vb [([], [])]) => show Calls Try.prog 39 #[.agg #[va], .agg #[vb]] W fun e w' => ∃ P, e = .returned (.tuple #[.pointer (some ⟨P, 0, none⟩), .bool true]) ∧ Held W w' P (f.map downN) [([], [])] va vb from by
      obtain ⟨lo', hi', hh', hvb⟩ := hb
      exact contest_good va vb f [([], [])] hg good_zero W lo hi lo' hi' (Nat.le_trans hh hW.size) hh' (HVA.out W hW) hvb
    have HG := Lib.hid hg
    go_enter Try.func14, Try.ntmps14
    have k0 : (w.alloc (.cells #[va] 28)).cell? ⟨w.heap.size, 0, none⟩ = some va := by go_simp
    have hS := HB0.out (.cells #[va] 28)
    have hlt0 := block_of_cell k0
    go_upto_region 1 with fail
    generalize (w.alloc (.cells #[va] 28)) = W1 at k0 hS hlt0
    have HS := Lib.hid hS
    have hbd : Below W1.heap.size W1 W1.drew := below_drewN (Below.refl _ _) 1
    have hS0 := held1 k0 hlt0 hbd
    clear hS HB0 hok hm hg
    go_region_held3 (fun w' : World => w'.cell? ⟨w.heap.size, 0, none⟩ = some va ∧ Below W1.heap.size W1 w') (first | exact hS0 | (go_split_ands; exact ⟨‹_›, ‹_›⟩) | exact held1 k0 hlt0 hbB | exact held1 k0 hlt0 hbA) (first
      | (go_at_call 39; (with_reducible refine (C.out wa _ (HS.out.trans (hbA.mono HS.out.size)) hca).mono ?_); rintro e wb ⟨P, rfl, hH1⟩; have hbB := hbA.trans ((held_below hH1).mono hbA.size))
      | (go_at_call 34; (with_reducible refine (nothing_calls _).mono ?_); rintro e wa ⟨vz, rfl, hca, hba⟩; have hbA := hbd.trans (hba.mono hbd.size)))
    all_goals
      rename_i hH
      have HBB : Hid (Below w.heap.size w wb) := Lib.hid (HS.out.trans (hbB.mono HS.out.size))
      have HWA : Hid (w.heap.size ≤ wa.heap.size) := Lib.hid (Nat.le_trans HS.out.size hbA.size)
      have HH1 := Lib.hid hH1
      clear hH hca C hbB hbA hba hbd hS0 k0 hH1
      have CM := Lib.hid (show Calls Try.prog 40 #[.pointer (some ⟨P, 0, none⟩), .bool l] wb fun e w' => ∃ v, e = .returned v ∧ OwnI w' w.heap.size v ms ∧ Below w.heap.size w w' from by
        obtain ⟨gg, n, cap, cs, hc, hw, hrow, hb0⟩ := HH1.out
        obtain ⟨hf1, hf2, _⟩ := (goodB_iff f).1 HG.out
        have e1 : (f.map downN).length = f.length := by simp
        have hu0 : Under ([([], [])] : List Nd) := ((goodB_iff [([], [])]).1 good_zero).2.1.up.2.under
        have hL : (optsD (f.map downN) (f.length - 1) l).length ≤ 1000 := by
          obtain ⟨b, off, cc, v1, v2, n1, n2, _, _, _, _, _, _, q1, q2, z1, z2⟩ := last_at (HVA.out wb HBB.out) HG.out
          cases l with
          | true => rw [q1]; omega
          | false => rw [q2]; omega
        refine (movesC_calls wa.heap.size P gg n cap (f.map downN) [([], [])] _ _ hf2.up.2.under hu0 (by rw [e1]; omega) (by simp) (by rw [e1]; exact h0) (by simp) l (optsD (f.map downN) (f.length - 1) l) ms (Lib.hid (by rw [e1])) hL HM wb hc cs hw hrow).mono ?_
        rintro e w' ⟨v, rfl, ho, ha⟩
        exact ⟨v, rfl, ho.mono HBB.out.size, HBB.out.trans (ha.only.below HBB.out.size (fun b e => by have := hc.hg; have := HWA.out; omega))⟩)
      clear HH1 HVA HS HWA HG HM
      go_wp2_with fail
      refine CM.out.mono ?_
      rintro e wd ⟨v, rfl, hown, hbw⟩
      have OF := Lib.hid hown
      have BF := Lib.hid hbw
      obtain ⟨av, cv, rfl⟩ := hown.form
      clear CM hown hbw
      go_wp2_with fail
      exact bodyPost_ret (v := .tuple #[.slice av ms.length cv, .bool true]) (by simp [results, Try.results14, go_sem]) rfl ⟨_, rfl, OF.out, BF.out⟩
end

section
open Go.RowKit Go.Lib
set_option linter.unusedVariables false
set_option linter.unusedSimpArgs false
set_option maxHeartbeats 1000000 in
theorem winsFirst_calls (base P g n cap : Nat) (A B : List Nd) (va vb : Value) (hA : Under A) (hB : Under B) (hAl : A.length ≤ 1000) (hBl : B.length ≤ 1000) (l : Bool) (w : World) (h0 : 0 < A.length) (h1 : 0 < B.length)
    (h : Ct w base P g n cap A B va vb) (cs : List Int) (hw : Wn A B cs) (hr : RowV base g n cap cs w) (r : Bool) (hres : Hid (winF A B (A.length - 1) (B.length - 1) l = r)) :
    Calls Try.prog 43 #[.pointer (some ⟨P, 0, none⟩), .bool l] w fun e w' => e = .returned (.bool r) ∧ Asked base g n cap A B w w' := by
  obtain ⟨a1, b1, rfl⟩ : ∃ ao c, va = .slice ao A.length c := by obtain ⟨ao, c, e, _⟩ := h.na; rw [List.length_map] at e; exact ⟨ao, c, e⟩
  obtain ⟨a2, b2, rfl⟩ : ∃ ao c, vb = .slice ao B.length c := by obtain ⟨ao, c, e, _⟩ := h.nb; rw [List.length_map] at e; exact ⟨ao, c, e⟩
  have k0 := h.c0
  have k1 := h.c1
  have hd : Below w.heap.size w w.drew := below_drewN (Below.refl w.heap.size w) 1
  have C := Lib.hid <| (wins_calls base P g n cap A B _ _ hA hB hAl hBl (A.length - 1 + (B.length - 1) + 1) (A.length - 1) (B.length - 1) l cs w.drew (by omega) (by omega) (by omega) (h.below hd) hw (hr.below hd)).mono fun e w' hp => (⟨by rw [← hres.out]; exact hp.1, Asked.trans ⟨cs, hw, hr.below hd, Only.of_below hd⟩ hp.2⟩ : e = .returned (.bool r) ∧ Asked base g n cap A B w w')
  have e1 : (A.length : Int) - 1 = ((A.length - 1 : Nat) : Int) := by omega
  have e2 : (B.length : Int) - 1 = ((B.length - 1 : Nat) : Int) := by omega
  have q1 : (A.length : Int) ≤ 1000 := by omega
  have q2 : (B.length : Int) ≤ 1000 := by omega
  have w1 : IntKind.i64.wrap ((A.length : Int) - 1) = ((A.length - 1 : Nat) : Int) := by rw [IntWalk.i64_in _ (by omega), e1]
  have w2 : IntKind.i64.wrap ((B.length : Int) - 1) = ((B.length - 1 : Nat) : Int) := by rw [IntWalk.i64_in _ (by omega), e2]
  clear h hw hr hres hA hB hd e1 e2
  go_enter Try.func43, Try.ntmps43
  go_wp2_with fail
  go_region_with (go_at_call 72; (with_reducible refine C.out.mono ?_); rintro e w4 ⟨rfl, ha⟩; have HA := Lib.hid ha; clear ha)
  all_goals
    go_wp2_with fail
    go_ret
    exact ⟨rfl, HA.out⟩
/-- what is asked of a contest, from a world on -/
theorem held_first {w w1 : World} {P : Nat} {f g : List Nz} {va vb : Value} (h : Held w w1 P (f.map downN) (g.map downN) va vb) (h1 : goodB f = true) (h2 : goodB g = true) (l r : Bool) (hr : Hid (winF (f.map downN) (g.map downN) (f.length - 1) (g.length - 1) l = r)) :
    Calls Try.prog 43 #[.pointer (some ⟨P, 0, none⟩), .bool l] w1 fun e w' => e = .returned (.bool r) ∧ Below w.heap.size w w' := by
  obtain ⟨gg, n, cap, cs, hc, hw, hrow, hb⟩ := h
  obtain ⟨hf1, hf2, _⟩ := (goodB_iff f).1 h1
  obtain ⟨hg1, hg2, _⟩ := (goodB_iff g).1 h2
  have e1 : (f.map downN).length = f.length := by simp
  have e2 : (g.map downN).length = g.length := by simp
  refine (winsFirst_calls w.heap.size P gg n cap (f.map downN) (g.map downN) va vb hf2.up.2.under hg2.up.2.under (by rw [e1]; have := hf1.2.1; omega) (by rw [e2]; have := hg1.2.1; omega) l w1 (by rw [e1]; exact hf1.1) (by rw [e2]; exact hg1.1) hc cs hw hrow r (by rw [e1, e2]; exact hr)).mono ?_
  rintro e w' ⟨he, ha⟩
  exact ⟨he, hb.trans (ha.only.below hb.size (fun b e => by have := hc.hg; omega))⟩
end

section
open Go.RowKit
set_option linter.unusedVariables false
set_option linter.unusedSimpArgs false
set_option maxHeartbeats 1000000 in
theorem winsMovingI_calls (va : Value) (f : List Nz) (l a ok : Bool) (hok : Hid (goodB f = ok)) (ha : Hid ((goodB f && soloF (f.map downN) (f.length - 1) l) = a)) (w : World) (lo hi : Nat) (hh : hi ≤ w.heap.size) (hva : NodesZ w lo hi va f) :
    Calls Try.prog 17 #[.agg #[va], .bool l] w fun e w' => e = .returned (.tuple #[.bool a, .bool ok]) ∧ Below w.heap.size w w' := by
  have HB0 := Lib.hid fun o => show Below w.heap.size w (w.alloc o) from ((Below.refl _ _).alloc (Nat.le_refl _) _)
  have HVA := Lib.hid fun (W : World) (hW : Below w.heap.size w W) => hva.below hW hh
  clear hva
  cases ok with
  | false =>
    obtain rfl : a = false := by rw [← ha.out, hok.out]; rfl
    have C := Lib.hid fun (W : World) (vb : Value) (hW : Below w.heap.size w W) (hb : CopyOf W vb [([], [])]) => show Calls Try.prog 39 #[.agg #[va], .agg #[vb]] W fun e w' => e = .returned (.tuple #[.pointer none, .bool false]) ∧ Below W.heap.size W w' from by
      obtain ⟨lo', hi', hh', hvb⟩ := hb
      exact contest_bad va vb f [([], [])] false true hok (Lib.hid good_zero) rfl W lo hi lo' hi' (Nat.le_trans hh hW.size) hh' (HVA.out W hW) hvb
    go_enter Try.func17, Try.ntmps17
    have k0 : (w.alloc (.cells #[va] 28)).cell? ⟨w.heap.size, 0, none⟩ = some va := by go_simp
    have hS := HB0.out (.cells #[va] 28)
    have hlt0 := block_of_cell k0
    go_upto_region 1 with fail
    generalize (w.alloc (.cells #[va] 28)) = W1 at k0 hS hlt0
    have HS := Lib.hid hS
    have hbd : Below W1.heap.size W1 W1.drew := below_drewN (Below.refl _ _) 1
    have hS0 := held1 k0 hlt0 hbd
    clear hS HB0 hok ha
    go_region_held3 (fun w' : World => w'.cell? ⟨w.heap.size, 0, none⟩ = some va ∧ Below W1.heap.size W1 w') (first | exact hS0 | (go_split_ands; exact ⟨‹_›, ‹_›⟩) | exact held1 k0 hlt0 hbB | exact held1 k0 hlt0 hbA) (first
      | (go_at_call 39; (with_reducible refine (C.out wa _ (HS.out.trans (hbA.mono HS.out.size)) hca).mono ?_); rintro e wb ⟨rfl, hbb⟩; have hbB := hbA.trans (hbb.mono hbA.size))
      | (go_at_call 34; (with_reducible refine (nothing_calls _).mono ?_); rintro e wa ⟨vz, rfl, hca, hba⟩; have hbA := hbd.trans (hba.mono hbd.size)))
    all_goals
      rename_i hH
      go_wp2_with fail
      exact bodyPost_ret (v := .tuple #[.bool false, .bool false]) (by simp [results, Try.results17, go_sem]) rfl ⟨rfl, HS.out.trans (hbB.mono HS.out.size)⟩
  | true =>
    have hg := hok.out
    have hr : soloF (f.map downN) (f.length - 1) l = a := by rw [← ha.out, hg]; rfl
    have C := Lib.hid fun (W : World) (vb : Value) (hW : Below w.heap.size w W) (hb : CopyOf W vb [([], [])]) => show Calls Try.prog 39 #[.agg #[va], .agg #[vb]] W fun e w' => ∃ P, e = .returned (.tuple #[.pointer (some ⟨P, 0, none⟩), .bool true]) ∧ Held W w' P (f.map downN) [([], [])] va vb from by
      obtain ⟨lo', hi', hh', hvb⟩ := hb
      exact contest_good va vb f [([], [])] hg good_zero W lo hi lo' hi' (Nat.le_trans hh hW.size) hh' (HVA.out W hW) hvb
    have CF := Lib.hid fun (W w1 : World) (P : Nat) (vb : Value) (h : Held W w1 P (f.map downN) [([], [])] va vb) => held_first (g := [([], [])]) h hg good_zero l a (Lib.hid hr)
    clear hg hr
    go_enter Try.func17, Try.ntmps17
    have k0 : (w.alloc (.cells #[va] 28)).cell? ⟨w.heap.size, 0, none⟩ = some va := by go_simp
    have hS := HB0.out (.cells #[va] 28)
    have hlt0 := block_of_cell k0
    go_upto_region 1 with fail
    generalize (w.alloc (.cells #[va] 28)) = W1 at k0 hS hlt0
    have HS := Lib.hid hS
    have hbd : Below W1.heap.size W1 W1.drew := below_drewN (Below.refl _ _) 1
    have hS0 := held1 k0 hlt0 hbd
    clear hS HB0 hok ha
    go_region_held3 (fun w' : World => w'.cell? ⟨w.heap.size, 0, none⟩ = some va ∧ Below W1.heap.size W1 w') (first | exact hS0 | (go_split_ands; exact ⟨‹_›, ‹_›⟩) | exact held1 k0 hlt0 hbB | exact held1 k0 hlt0 hbA) (first
      | (go_at_call 39; (with_reducible refine (C.out wa _ (HS.out.trans (hbA.mono HS.out.size)) hca).mono ?_); rintro e wb ⟨P, rfl, hH1⟩; have hbB := hbA.trans ((held_below hH1).mono hbA.size); have C2 := Lib.hid (CF.out wa wb P _ hH1))
      | (go_at_call 34; (with_reducible refine (nothing_calls _).mono ?_); rintro e wa ⟨vz, rfl, hca, hba⟩; have hbA := hbd.trans (hba.mono hbd.size)))
    all_goals
      rename_i hH
      have HBA : Hid (Below w.heap.size w wa) := Lib.hid (HS.out.trans (hbA.mono HS.out.size))
      clear hH hH1 hca CF C hbB hbA hba hbd hS0 k0
      go_wp2_with fail
      refine C2.out.mono ?_
      rintro e w5 ⟨rfl, hb5⟩
      have HB5 := Lib.hid (HBA.out.trans (hb5.mono HBA.out.size))
      clear hb5 C2
      go_wp2_with fail
      exact bodyPost_ret (v := .tuple #[.bool a, .bool true]) (by simp [results, Try.results17, go_sem]) rfl ⟨rfl, HB5.out⟩
end

section
set_option linter.unusedVariables false
set_option linter.unusedSimpArgs false
/-- at least: Right, moving first, does not win the difference -/
def geW (A B : List Nd) (i j : Nat) : Bool := !winF A B i j false
theorem winF_turn (A B : List Nd) (hA : Under A) (hB : Under B) : ∀ n i j, i + j < n → ∀ l, winF A B i j l = winF B A j i (!l) := by
  intro n
  induction n with
  | zero => intro i j h; omega
  | succ n ih =>
    intro i j h l
    rw [winF_eq A B hA hB, winF_eq B A hB hA]
    rw [Bool.or_comm, Bool.not_not]
    congr 1
    · exact any_congr _ _ _ fun o ho => by
        have := optsD_lt hB ho
        rw [ih i o (by omega), Bool.not_not]
    · exact any_congr _ _ _ fun o ho => by
        have := optsD_lt hA ho
        rw [ih o j (by omega), Bool.not_not]
theorem ge_step {A B : List Nd} (hA : Under A) (hB : Under B) (i j : Nat) : geW A B i j = true ↔ (∀ r ∈ optsD A i false, geW B A j r = false) ∧ (∀ l ∈ optsD B j true, geW B A l i = false) := by
  unfold geW
  rw [winF_eq A B hA hB]
  simp only [Bool.not_false, Bool.not_eq_true', Bool.or_eq_false_iff, List.any_eq_false, Bool.not_eq_true, Bool.not_eq_false']
  constructor
  · rintro ⟨h1, h2⟩
    refine ⟨fun r hr => ?_, fun l hl => ?_⟩
    · have := h1 r hr
      rw [winF_turn A B hA hB _ r j (Nat.lt_succ_self _)] at this
      simpa using this
    · have := h2 l hl
      rw [winF_turn A B hA hB _ i l (Nat.lt_succ_self _)] at this
      simpa using this
  · rintro ⟨h1, h2⟩
    refine ⟨fun r hr => ?_, fun l hl => ?_⟩
    · rw [winF_turn A B hA hB _ r j (Nat.lt_succ_self _)]
      simpa using h1 r hr
    · rw [winF_turn A B hA hB _ i l (Nat.lt_succ_self _)]
      simpa using h2 l hl
theorem ge_refl {A : List Nd} (hA : Under A) : ∀ i, geW A A i i = true := by
  intro i
  induction i using Nat.strongRecOn with
  | ind i ih =>
    refine (ge_step hA hA i i).2 ⟨fun r hr => ?_, fun l hl => ?_⟩
    · have hlt := optsD_lt hA hr
      cases h : geW A A i r with
      | false => rfl
      | true =>
        have := ((ge_step hA hA i r).1 h).1 r hr
        rw [ih r hlt] at this
        cases this
    · have hlt := optsD_lt hA hl
      cases h : geW A A l i with
      | false => rfl
      | true =>
        have := ((ge_step hA hA l i).1 h).2 l hl
        rw [ih l hlt] at this
        cases this
end

end Go.Proofs.Ytabfdaofikccmaa
