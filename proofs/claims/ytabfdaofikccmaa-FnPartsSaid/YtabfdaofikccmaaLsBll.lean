/- Which of two games is ahead, as the program tells it. -/
import Derived.Test.YtabfdaofikccmaaSmM
import Derived.Test.YtabfdaofikccmaaDrAll
import Derived.Test.YtabfdaofikccmaaFmPartL
import Derived.Test.YtabfdaofikccmaaFmGoodI
import Derived.Deep.RegionHeld3
import Derived.Test.YtabfdaofikccmaaFmPart
import Derived.Test.YtabfdaofikccmaaInAll
namespace Go.Proofs.Ytabfdaofikccmaa
section
set_option linter.unusedVariables false
set_option linter.unusedSimpArgs false

/-- the first nodes of a star -/
def starT (k : Nat) : List Nd := (List.range k).map fun j => (List.range j, List.range j)
theorem starT_len (k : Nat) : (starT k).length = k := by simp [starT]
theorem starT_succ (k : Nat) : starT (k + 1) = starT k ++ [(List.range k, List.range k)] := by simp [starT, List.range_succ]
theorem starT_at {k j : Nat} (h : j < k) : (starT k)[j]? = some (List.range j, List.range j) := by unfold starT; rw [List.getElem?_map, List.getElem?_range h]; rfl

/-- nodes of which each is born on the day of its number -/
def Line (P : List Nd) : Prop := ∀ (k : Nat) (nd : Nd), P[k]? = some nd → lastOf (fun x => x) nd = k

theorem line_born {P : List Nd} (h : Line P) (hu : Under P) : ∀ k, k < P.length → bOf P k = k := by
  have hb := births_bOf P hu
  intro k
  induction k using Nat.strongRecOn with
  | ind k ih =>
    intro hk
    obtain ⟨nd, hnd⟩ := lt_get hk
    rw [hb k nd hnd, lastOf_congr (bOf P) (fun x => x) nd (fun x hx => by
      have := hu k nd hnd x hx
      exact ih x this (by omega))]
    exact h k nd hnd

theorem line_rising {P : List Nd} (h : Line P) (hu : Under P) : RisingBy P (bOf P) := fun k x y hx hy => by
  left
  have h1 := get_lt hy
  rw [line_born h hu k (by omega), line_born h hu (k + 1) h1]
  omega

theorem line_snoc {P : List Nd} {nd : Nd} (h : Line P) (hn : lastOf (fun x => x) nd = P.length) : Line (P ++ [nd]) := fun k x hk => by
  rcases Nat.lt_or_ge k P.length with hlt | hge
  · rw [List.getElem?_append_left hlt] at hk
    exact h k x hk
  · rw [List.getElem?_append_right hge] at hk
    have h0 := get_lt hk
    simp at h0
    rw [show k - P.length = 0 from by omega] at hk
    simp only [List.getElem?_cons_zero, Option.some.injEq] at hk
    subst hk
    rw [hn]
    omega

theorem struct_snoc {P : List Nd} {nd : Nd} (h : Struct P) (h1 : nd.1.Pairwise (· < ·)) (h2 : nd.2.Pairwise (· < ·)) (h3 : ∀ x, x ∈ nd.1 ∨ x ∈ nd.2 → x < P.length) : Struct (P ++ [nd]) := fun k x hk => by
  rcases Nat.lt_or_ge k P.length with hlt | hge
  · rw [List.getElem?_append_left hlt] at hk
    exact h k x hk
  · rw [List.getElem?_append_right hge] at hk
    have h0 := get_lt hk
    simp at h0
    rw [show k - P.length = 0 from by omega] at hk
    simp only [List.getElem?_cons_zero, Option.some.injEq] at hk
    subst hk
    exact ⟨h1, h2, fun x hx => by have := h3 x hx; omega⟩

theorem used_snoc {P : List Nd} {nd : Nd} (h : Used P) (hn : 0 < P.length → P.length - 1 ∈ nd.1 ∨ P.length - 1 ∈ nd.2) : Used (P ++ [nd]) := fun i hi => by
  rw [List.length_append, List.length_singleton] at hi
  rcases Nat.lt_or_ge (i + 1) P.length with hlt | hge
  · obtain ⟨k, x, hk, hx⟩ := h i hlt
    exact ⟨k, x, by rw [List.getElem?_append_left (get_lt hk)]; exact hk, hx⟩
  · refine ⟨P.length, nd, by simp, ?_⟩
    rw [show i = P.length - 1 from by omega]
    exact hn (by omega)

/-- what is asked of nodes that are a good form, each born on its own day -/
structure LineF (P : List Nd) : Prop where
  line : Line P
  struct : Struct P
  used : Used P
  small : ∀ nd ∈ P, nd.1.length ≤ 24 ∧ nd.2.length ≤ 24
  first : P[0]? = some ([], [])

theorem LineF.pos {P : List Nd} (h : LineF P) : 0 < P.length := get_lt h.first

theorem LineF.snoc {P : List Nd} {nd : Nd} (h : LineF P) (hl : lastOf (fun x => x) nd = P.length) (h1 : nd.1.Pairwise (· < ·)) (h2 : nd.2.Pairwise (· < ·)) (h3 : ∀ x, x ∈ nd.1 ∨ x ∈ nd.2 → x < P.length) (h4 : P.length - 1 ∈ nd.1 ∨ P.length - 1 ∈ nd.2) (h5 : nd.1.length ≤ 24 ∧ nd.2.length ≤ 24) : LineF (P ++ [nd]) :=
  ⟨line_snoc h.line hl, struct_snoc h.struct h1 h2 h3, used_snoc h.used (fun _ => h4), fun x hx => by
    rcases List.mem_append.1 hx with hx | hx
    · exact h.small x hx
    · rw [List.mem_singleton] at hx; subst hx; exact h5, by rw [List.getElem?_append_left h.pos]; exact h.first⟩

theorem last_range (k : Nat) : lastOf (fun x => x) (List.range k, List.range k) = k := by
  refine Nat.le_antisymm (lastOf_le _ _ _ (fun x hx => by simpa using hx)) ?_
  cases k with
  | zero => exact Nat.zero_le _
  | succ k => exact lastOf_lt (fun x => x) (List.range (k + 1), List.range (k + 1)) k (Or.inl (List.mem_range.2 (Nat.lt_succ_self k)))

theorem range_asc (k : Nat) : (List.range k).Pairwise (· < ·) := List.pairwise_lt_range

theorem starT_good (k : Nat) (hk : k ≤ 24) : LineF (starT (k + 1)) := by
  induction k with
  | zero =>
    refine ⟨fun k nd hk => ?_, fun k nd hk => ?_, fun i hi => by rw [starT_len] at hi; omega, fun nd hnd => ?_, rfl⟩
    · have h0 := get_lt hk
      rw [starT_len] at h0
      rw [starT_at h0] at hk
      injection hk with hk
      subst hk
      exact last_range k
    · have h0 := get_lt hk
      rw [starT_len] at h0
      rw [starT_at h0] at hk
      injection hk with hk
      subst hk
      exact ⟨range_asc k, range_asc k, fun x hx => by simpa using hx⟩
    · simp [starT] at hnd
      subst hnd
      exact ⟨Nat.zero_le _, Nat.zero_le _⟩
  | succ k ih =>
    rw [starT_succ (k + 1)]
    have hl := starT_len (k + 1)
    refine (ih (by omega)).snoc (by rw [last_range, hl]) (range_asc _) (range_asc _) (fun x hx => by rw [hl]; simpa using hx) (Or.inl (by rw [hl]; simp)) ?_
    simp
    omega

/-- the nodes of ups and a star -/
def upD : Nat → Nat → List Nd
  | 0, s => starT (s + 1)
  | u + 1, s => if u = 0 ∧ s = 1 then starT 2 ++ [([0, 1], [0])] else upD u (s ^^^ 1) ++ [([0], [(upD u (s ^^^ 1)).length - 1])]

theorem upD_zero (s : Nat) : upD 0 s = starT (s + 1) := rfl
theorem upD_one : upD 1 1 = starT 2 ++ [([0, 1], [0])] := rfl
theorem upD_step (u s : Nat) (h : ¬ (u = 0 ∧ s = 1)) : upD (u + 1) s = upD u (s ^^^ 1) ++ [([0], [(upD u (s ^^^ 1)).length - 1])] := by
  rw [upD, if_neg h]

theorem xor_small {s : Nat} (h : s ≤ 15) : s ^^^ 1 ≤ 15 := by
  have := Nat.xor_lt_two_pow (n := 4) (x := s) (y := 1) (by omega) (by omega)
  omega

theorem last_up (m : Nat) (h : 0 < m) : lastOf (fun x => x) ([0], [m - 1]) = m := by
  unfold lastOf
  simp
  omega

theorem upD_good (u s : Nat) (hu : u ≤ 12) (hs : s ≤ 15) : LineF (upD u s) ∧ (upD u s).length ≤ u + 16 := by
  induction u generalizing s with
  | zero => exact ⟨starT_good s (by omega), by rw [upD_zero, starT_len]; omega⟩
  | succ u ih =>
    by_cases h : u = 0 ∧ s = 1
    · obtain ⟨rfl, rfl⟩ := h
      rw [upD_one]
      refine ⟨(starT_good 1 (by omega)).snoc (by decide) (by decide) (by decide) (fun x hx => by simp [starT_len] at hx ⊢; omega) (by rw [starT_len]; simp) (by decide), by simp [starT_len]⟩
    · rw [upD_step u s h]
      obtain ⟨h1, h2⟩ := ih (s ^^^ 1) (by omega) (xor_small hs)
      have hp := h1.pos
      refine ⟨h1.snoc (last_up _ hp) (by simp) (by simp) (fun x hx => ?_) (Or.inr (by simp)) (by simp), by simp; omega⟩
      simp at hx
      omega

theorem upD_starts (u s : Nat) (hu : u ≤ 12) (hs : s ≤ 15) : ∃ m, (upD u s).length = m + 1 := ⟨(upD u s).length - 1, by have := (upD_good u s hu hs).1.pos; omega⟩

/-- nodes that each fall to a node of nodes in order -/
theorem canon_via {P out : List Nd} {pl : Nat → Nat} (hu : Under P) (hs : Struct out) (hr : RisingBy out (bOf out)) (hn : ∀ (k : Nat) (nd : Nd), P[k]? = some nd → out[pl k]? = some (movd pl nd)) (hsur : ∀ i, i < out.length → ∃ k, k < P.length ∧ pl k = i) : Canon P (bOf P) (fun _ => True) out pl := by
  have hbP := births_bOf P hu
  have hbo := births_bOf out hs.under
  have hb : ∀ k, k < P.length → bOf out (pl k) = bOf P k := by
    intro k
    induction k using Nat.strongRecOn with
    | ind k ih =>
      intro hk
      obtain ⟨nd, hnd⟩ := lt_get hk
      rw [hbP k nd hnd, hbo (pl k) _ (hn k nd hnd)]
      exact lastOf_map (bOf P) (bOf out) pl nd (fun x hx => by
        have := hu k nd hnd x hx
        exact ih x this (by omega))
  have hp : ∀ k, k < P.length → pl k < out.length := fun k hk => by
    obtain ⟨nd, hnd⟩ := lt_get hk
    exact get_lt (hn k nd hnd)
  have hc := canon_of_rising hs hbo hr.rising
  refine ⟨fun k nd hk _ => hn k nd hk, fun i hi => ?_, fun k j hk hj _ _ h => ?_, fun k j x y hk hj _ _ h hx hy hl => ?_, fun k j hk hj _ _ h => ?_⟩
  · obtain ⟨k, h1, h2⟩ := hsur i hi
    exact ⟨k, h1, trivial, h2⟩
  · exact hc.born (pl k) (pl j) (hp k hk) (hp j hj) trivial trivial (by rw [hb k hk, hb j hj]; exact h)
  · exact hc.ahead (pl k) (pl j) x y (hp k hk) (hp j hj) trivial trivial (by rw [hb k hk, hb j hj]; exact h) hx hy hl
  · exact hc.once (pl k) (pl j) (hp k hk) (hp j hj) trivial trivial h

theorem LineF.rising {P : List Nd} (h : LineF P) : RisingBy P (bOf P) := line_rising h.line h.struct.under

theorem LineF.fit {P : List Nd} (h : LineF P) (hl : P.length ≤ 125) : Fit P := ⟨h.pos, hl, h.struct.under, h.used, h.small⟩

theorem LineF.goodB {P : List Nd} (h : LineF P) (hl : P.length ≤ 120) : goodB (P.map upN) = true := by
  refine (goodB_iff _).2 ⟨⟨by simpa using h.pos, by simpa using hl, fun nd hnd => ?_⟩, structZ_up h.struct, ?_, ?_⟩
  · obtain ⟨x, hx, rfl⟩ := List.mem_map.1 hnd
    have := h.small x hx
    simpa [upN, upL] using this
  · rw [down_up]; exact h.rising
  · rw [down_up]; exact h.used

def zeroD : List Nd := [([], [])]
theorem zeroD_star : zeroD = starT 1 := rfl
theorem zero_fit : Fit zeroD := (starT_good 0 (by omega)).fit (by decide)

/-- the model's up on a game -/
theorem up_make {f : List Nd} (h : LineF f) (hl : f.length ≤ 100) : formM (mkD [zeroD] [f]) = f ++ [([0], [f.length - 1])] := by
  have hp := h.pos
  have hg : LineF (f ++ [([0], [f.length - 1])]) := h.snoc (last_up _ hp) (by simp) (by simp) (fun x hx => by simp at hx; omega) (Or.inr (by simp)) (by simp)
  have e : mkD [zeroD] [f] = [([], [])] ++ shD 1 f ++ [([0], [f.length])] := by
    have e1 : stkL [] [zeroD] = ([([], [])], [0]) := by simp [stkL, stk, zeroD, shD]
    unfold mkD
    rw [e1]
    have e2 : stkL [([], [])] [f] = ([([], [])] ++ shD 1 f, [1 + f.length - 1]) := by simp [stkL, stk]
    rw [e2]
    dsimp only
    rw [show 1 + f.length - 1 = f.length from by omega]
  have hfz : ∀ g ∈ [zeroD], Fit g := fun g hg => by simp at hg; subst hg; exact zero_fit
  have hff : ∀ g ∈ [f], Fit g := fun g hg => by simp at hg; subst hg; exact h.fit (by omega)
  have hu := mkD_under hfz hff
  have hlen : (mkD [zeroD] [f]).length = f.length + 2 := by rw [e]; simp only [List.length_append, shD_len, List.length_singleton]; omega
  refine (order_is hu (by omega) (mkD_reach hfz hff) (canon_via (pl := fun k => k - 1) hu hg.struct hg.rising (fun k nd hk => ?_) (fun i hi => ?_))).symm
  · rw [e] at hk
    rcases Nat.lt_or_ge k (f.length + 1) with hlt | hge
    · rw [List.getElem?_append_left (by simp [shD_len]; omega)] at hk
      cases k with
      | zero =>
        simp at hk
        subst hk
        rw [List.getElem?_append_left (by simpa using hp)]
        exact h.first
      | succ k =>
        simp at hk
        obtain ⟨x, hx, rfl⟩ := shD_get hk
        rw [show k + 1 - 1 = k from by omega, List.getElem?_append_left (get_lt hx), hx]
        have hid := movd_id h.struct hx
        unfold movd at hid ⊢
        simp only [List.map_map, Function.comp_def, Nat.add_sub_cancel]
        rw [← hid]
        simp only [List.map_id']
        rw [sortd_id _ (sortd_asc _), sortd_id _ (sortd_asc _)]
    · rw [List.getElem?_append_right (by simp [shD_len]; omega)] at hk
      have h0 := get_lt hk
      simp [shD_len] at h0
      have hk0 : k = f.length + 1 := by omega
      subst hk0
      simp [shD_len] at hk
      subst hk
      rw [show f.length + 1 - 1 = f.length from by omega]
      simp [movd, sortd, putN]
  · refine ⟨i + 1, ?_, by omega⟩
    rw [hlen]
    simp at hi
    omega

theorem up_star : formM (mkD [zeroD, starT 2] [zeroD]) = starT 2 ++ [([0, 1], [0])] := by decide

theorem up_next (u s : Nat) (hu : u + 1 ≤ 12) (hs : s ≤ 15) (h : ¬ (u = 0 ∧ s = 1)) : formM (mkD [zeroD] [upD u (s ^^^ 1)]) = upD (u + 1) s := by
  obtain ⟨h1, h2⟩ := upD_good u (s ^^^ 1) (by omega) (xor_small hs)
  rw [up_make h1 (by omega), upD_step u s h]
end

section
open Go.RowKit
set_option linter.unusedVariables false
set_option linter.unusedSimpArgs false

/-- a list of numbers that lies apart from some blocks -/
def IntsV (w : World) (X : Nat → Prop) (u : Value) (l : List Int) : Prop := ∃ lo hi, hi ≤ w.heap.size ∧ (∀ g, X g → g < lo ∨ hi ≤ g) ∧ IntsZ w lo hi u l

theorem IntsV.only {w w' : World} {X F : Nat → Prop} {u : Value} {l : List Int} (h : IntsV w X u l) (ho : Only w w' F) (hF : ∀ g, g < w.heap.size → F g → X g) : IntsV w' X u l := by
  obtain ⟨lo, hi, h1, h2, h3⟩ := h
  exact ⟨lo, hi, Nat.le_trans h1 ho.size, h2, h3.keep (fun b o e1 e2 => ho.cell (by omega) (fun e => by have := h2 b (hF b (by omega) e); omega))⟩
theorem IntsV.below {w w' : World} {X : Nat → Prop} {u : Value} {l : List Int} (h : IntsV w X u l) (hb : Below w.heap.size w w') : IntsV w' X u l := h.only (Only.of_below (F := fun _ => False) hb) (fun _ _ h => h.elim)
theorem IntsV.reX {w : World} {X Y : Nat → Prop} {u : Value} {l : List Int} (h : IntsV w X u l) (hY : ∀ g, g < w.heap.size → Y g → X g) : IntsV w Y u l := by
  obtain ⟨lo, hi, h1, h2, h3⟩ := h
  refine ⟨lo, hi, h1, fun g hg => ?_, h3⟩
  rcases Nat.lt_or_ge g w.heap.size with h4 | h4
  · exact h2 g (hY g h4 hg)
  · right; omega
theorem IntsV.ints {w : World} {X : Nat → Prop} {u : Value} {l : List Int} (h : IntsV w X u l) : IntsZ w 0 w.heap.size u l := by
  obtain ⟨lo, hi, h1, h2, h3⟩ := h
  exact h3.wide (Nat.zero_le _) h1
theorem IntsV.one {w : World} {X : Nat → Prop} {u : Value} {l : List Int} (h : IntsV w X u l) : u.oneCell' = true := by
  obtain ⟨_, _, _, _, ao, c, rfl, _⟩ := h
  rfl

/-- the blocks that a pile's lists lie apart from -/
def PX (v : Value) (X : Nat → Prop) (g : Nat) : Prop := v.ownBlock = some g ∨ X g

structure PileZ (w : World) (base : Nat) (v : Value) (vs : List (Value × Value)) (F : List Nz) (X : Nat → Prop) : Prop where
  row : w.ownsRow base 57 2 v F.length (rowN2 vs)
  len : vs.length = F.length
  list : ∀ (j : Nat) (nd : Nz) (p : Value × Value), F[j]? = some nd → vs[j]? = some p → IntsV w (PX v X) p.1 nd.1 ∧ IntsV w (PX v X) p.2 nd.2

theorem PileZ.lt {w : World} {base : Nat} {v : Value} {vs : List (Value × Value)} {F : List Nz} {X : Nat → Prop} (h : PileZ w base v vs F X) : ∀ g, v.ownBlock = some g → base ≤ g ∧ g < w.heap.size := World.ownsRow.lt h.row
theorem PileZ.below {w w' : World} {base : Nat} {v : Value} {vs : List (Value × Value)} {F : List Nz} {X : Nat → Prop} (h : PileZ w base v vs F X) (hb : Below w.heap.size w w') : PileZ w' base v vs F X :=
  ⟨own_only h.row (Only.of_below (F := fun _ => False) hb) (fun _ _ => id), h.len, fun j nd p h1 h2 => ⟨(h.list j nd p h1 h2).1.below hb, (h.list j nd p h1 h2).2.below hb⟩⟩
theorem PileZ.only {w w' : World} {base : Nat} {v : Value} {vs : List (Value × Value)} {F : List Nz} {X : Nat → Prop} (h : PileZ w base v vs F X) (ho : Only w w' X) (hd : ∀ g, v.ownBlock = some g → ¬ X g) : PileZ w' base v vs F X :=
  ⟨own_only h.row ho hd, h.len, fun j nd p h1 h2 => ⟨(h.list j nd p h1 h2).1.only ho (fun _ _ e => Or.inr e), (h.list j nd p h1 h2).2.only ho (fun _ _ e => Or.inr e)⟩⟩
theorem PileZ.reX {w : World} {base : Nat} {v : Value} {vs : List (Value × Value)} {F : List Nz} {X Y : Nat → Prop} (h : PileZ w base v vs F X) (hY : ∀ g, g < w.heap.size → Y g → X g) : PileZ w base v vs F Y :=
  ⟨h.row, h.len, fun j nd p h1 h2 => ⟨(h.list j nd p h1 h2).1.reX (fun g hg e => e.imp id (hY g hg)), (h.list j nd p h1 h2).2.reX (fun g hg e => e.imp id (hY g hg))⟩⟩
theorem PileZ.mono {w : World} {base base' : Nat} {v : Value} {vs : List (Value × Value)} {F : List Nz} {X : Nat → Prop} (h : PileZ w base v vs F X) (hb : base' ≤ base) : PileZ w base' v vs F X := ⟨World.ownsRow.mono h.row hb, h.len, h.list⟩
theorem PileZ.nil (w : World) (base : Nat) (X : Nat → Prop) : PileZ w base (.slice none 0 0) [] [] X := ⟨World.ownsRow_nil _ _ _ _, rfl, fun j nd p h => by simp at h⟩
theorem PileZ.shape {w : World} {base : Nat} {v : Value} {vs : List (Value × Value)} {F : List Nz} {X : Nat → Prop} (h : PileZ w base v vs F X) : ∃ a c, v = .slice a F.length c := by
  rcases h.row.2 with ⟨h1, h0⟩ | ⟨g, c, cs, h1, _⟩
  · exact ⟨none, 0, by rw [h1, h0]⟩
  · exact ⟨_, _, h1⟩

theorem PileZ.snoc {w w' : World} {base : Nat} {v v' : Value} {vs : List (Value × Value)} {F : List Nz} {X : Nat → Prop} {p : Value × Value} {nd : Nz} (h : PileZ w base v vs F X) (hg : w.grownBy w' v.ownBlock)
    (hn : w'.ownsRow base 57 2 v' (F.length + 1) (rowN2 vs ++ [p.1, p.2])) (hat : v'.ownBlock = v.ownBlock ∨ v'.ownBlock = some w.heap.size) (h1 : IntsV w (PX v X) p.1 nd.1) (h2 : IntsV w (PX v X) p.2 nd.2) : PileZ w' base v' (vs ++ [p]) (F ++ [nd]) X := by
  have ho : Only w w' (fun b => v.ownBlock = some b) := Only.of_grown hg (fun g e => e)
  have go : ∀ {u : Value} {l : List Int}, IntsV w (PX v X) u l → IntsV w' (PX v' X) u l := fun hi => by
    have h0 : IntsV w (PX v' X) _ _ := hi.reX (Y := PX v' X) (fun g hg e => by
      rcases e with e | e
      · rcases hat with e2 | e2
        · exact Or.inl (e2 ▸ e)
        · rw [e2] at e; injection e with e; omega
      · exact Or.inr e)
    obtain ⟨lo, hi', a1, a2, a3⟩ := hi
    refine ⟨lo, hi', Nat.le_trans a1 hg.size, fun g e => ?_, a3.keep (fun b o e1 e2 => ho.cell (by omega) (fun e => by have := a2 b (Or.inl e); omega))⟩
    rcases e with e | e
    · rcases hat with e2 | e2
      · exact a2 g (Or.inl (e2 ▸ e))
      · rw [e2] at e; injection e with e; omega
    · exact a2 g (Or.inr e)
  refine ⟨by rw [rowN2_snoc, List.length_append]; exact hn, by simp [h.len], fun j n0 q hj hq => ?_⟩
  rcases get_snoc hj with hj1 | ⟨ej, rfl⟩
  · rcases get_snoc hq with hq1 | ⟨eq, _⟩
    · have hl := h.list j n0 q hj1 hq1
      exact ⟨go hl.1, go hl.2⟩
    · exfalso
      have := get_lt hj1
      have := h.len
      omega
  · rcases get_snoc hq with hq1 | ⟨_, eq⟩
    · exfalso
      have := get_lt hq1
      have := h.len
      omega
    · rw [eq]
      exact ⟨go h1, go h2⟩

/-- a list made later lies apart from what was there -/
theorem intsV_own {w w1 w' : World} {base base1 : Nat} {q u : Value} {vs : List (Value × Value)} {F : List Nz} {X : Nat → Prop} {l : List Int} (hq : PileZ w base q vs F X) (hX : ∀ g, X g → g < w.heap.size) (ho : OwnI w1 base1 u l) (h1 : w.heap.size ≤ base1) (hb : Below w1.heap.size w1 w') : IntsV w' (PX q X) u l :=
  ⟨base1, w1.heap.size, hb.size, fun g e => Or.inl (by
    rcases e with e | e
    · have := (hq.lt g e).2; omega
    · have := hX g e; omega), ho.ints.below hb (Nat.le_refl _)⟩

theorem PileZ.nodesZ {w : World} {base : Nat} {v : Value} {vs : List (Value × Value)} {F : List Nz} {X : Nat → Prop} (h : PileZ w base v vs F X) : NodesZ w 0 w.heap.size v F := by
  rcases h.row.2 with ⟨h1, h0⟩ | ⟨g, c, cs, h1, _⟩
  · have hl : F = [] := List.length_eq_zero_iff.1 h0
    subst hl
    exact ⟨none, 0, by rw [h1]; rfl, by simp, fun j nd hj => by simp at hj⟩
  · subst h1
    have hn := h.row
    have hlt := World.ownsRow.lt hn _ rfl
    refine ⟨_, c, rfl, World.ownsRow.caps hn, fun j nd hj => ?_⟩
    have hjl := get_lt hj
    obtain ⟨p, hp⟩ := lt_get (l := vs) (i := j) (by rw [h.len]; exact hjl)
    have hr := rowN2_at vs j p hp
    obtain ⟨i1, i2⟩ := h.list j nd p hj hp
    refine ⟨g, 0, p.1, p.2, rfl, Nat.zero_le _, hlt.2, ?_, ?_, i1.ints, i2.ints⟩
    · rw [Nat.zero_add, World.ownsRow.cellAt hn (j * 2) (by omega)]; exact hr.1
    · rw [Nat.zero_add, World.ownsRow.cellAt hn (j * 2 + 1) (by omega)]; exact hr.2

/-- where the lists lie -/
theorem IntsV.low {w : World} {X : Nat → Prop} {u : Value} {l : List Int} {m : Nat} (h : IntsV w X u l) (hX : ∀ g, g < m → X g) : IntsZ w m w.heap.size u l := by
  obtain ⟨lo, hi, h1, h2, ao, c, e, h3, h4⟩ := h
  refine ⟨ao, c, e, h3, fun j x hx => ?_⟩
  obtain ⟨b, off, e1, e2, e3, e4⟩ := h4 j x hx
  refine ⟨b, off, e1, ?_, by omega, e4⟩
  rcases Nat.lt_or_ge b m with h5 | h5
  · have := h2 b (hX b h5); omega
  · exact h5
theorem PileZ.nodesL {w : World} {base m : Nat} {v : Value} {vs : List (Value × Value)} {F : List Nz} {X : Nat → Prop} (h : PileZ w base v vs F X) (hm : m ≤ base) (hX : ∀ g, g < m → X g) : NodesZ w m w.heap.size v F := by
  rcases h.row.2 with ⟨h1, h0⟩ | ⟨g, c, cs, h1, _⟩
  · have hl : F = [] := List.length_eq_zero_iff.1 h0
    subst hl
    exact ⟨none, 0, by rw [h1]; rfl, by simp, fun j nd hj => by simp at hj⟩
  · subst h1
    have hn := h.row
    have hlt := World.ownsRow.lt hn _ rfl
    refine ⟨_, c, rfl, World.ownsRow.caps hn, fun j nd hj => ?_⟩
    have hjl := get_lt hj
    obtain ⟨p, hp⟩ := lt_get (l := vs) (i := j) (by rw [h.len]; exact hjl)
    have hr := rowN2_at vs j p hp
    obtain ⟨i1, i2⟩ := h.list j nd p hj hp
    refine ⟨g, 0, p.1, p.2, rfl, Nat.le_trans hm hlt.1, hlt.2, ?_, ?_, i1.low (fun g hg => Or.inr (hX g hg)), i2.low (fun g hg => Or.inr (hX g hg))⟩
    · rw [Nat.zero_add, World.ownsRow.cellAt hn (j * 2) (by omega)]; exact hr.1
    · rw [Nat.zero_add, World.ownsRow.cellAt hn (j * 2 + 1) (by omega)]; exact hr.2

theorem shift_wrap (x m : Nat) (h : x + m ≤ 1000000) : IntKind.i64.wrap ((x : Int) + (m : Int)) = ((x + m : Nat) : Int) := by
  rw [← Int.natCast_add]
  exact IntWalk.i64_in _ (by omega)

/-- the shifted numbers so far, and zeros -/
def shiftP (l : List Nat) (m k : Nat) : List Int := upL ((l.take k).map (· + m)) ++ List.replicate (l.length - k) 0
theorem shiftP_len (l : List Nat) (m k : Nat) (h : k ≤ l.length) : (shiftP l m k).length = l.length := by unfold shiftP upL; simp; omega
theorem shiftP_set (l : List Nat) (m k x : Nat) (h : l[k]? = some x) : (shiftP l m k).set k ((x + m : Nat) : Int) = shiftP l m (k + 1) := by
  have hk := get_lt h
  unfold shiftP
  have e1 : (upL ((l.take k).map (· + m))).length = k := by unfold upL; simp; omega
  rw [List.set_append_right _ _ (by rw [e1]; exact Nat.le_refl _), e1, Nat.sub_self, show l.length - k = (l.length - (k + 1)) + 1 from by omega, List.replicate_succ, List.set_cons_zero, List.take_add_one, h, List.map_append]
  unfold upL
  simp
theorem shiftP_all (l : List Nat) (m : Nat) : shiftP l m l.length = upL (l.map (· + m)) := by simp [shiftP]

set_option maxRecDepth 100000 in
set_option maxHeartbeats 1000000 in
theorem shifted_calls (v : Value) (l : List Nat) (m : Nat) (w : World) (lo hi : Nat) (hh : hi ≤ w.heap.size) (hv : IntsZ w lo hi v (upL l)) (hl : l.length ≤ 1000) (hx : ∀ x ∈ l, x + m ≤ 1000000) :
    Calls Try.prog 84 #[v, .int .i64 m] w fun e w' => ∃ g, e = .returned (.slice (some ⟨g, 0, none⟩) l.length l.length) ∧ OwnI w' w.heap.size (.slice (some ⟨g, 0, none⟩) l.length l.length) (upL (l.map (· + m))) ∧ Below w.heap.size w w' := by
  obtain ⟨i0, hi0, hz0, hz1, hz2⟩ := info_parts infoIntA
  obtain ⟨at', ct, rfl, hct⟩ := ints_lenP hv
  have HV := Lib.hid hv
  have HX := Lib.hid hx
  clear hv hx
  go_enter Try.func84, Try.ntmps84
  go_wp2_with (at_make; refine wpList_make_full _ rfl _ _ 34 rfl w.heap.size 3 i0 (.int .i64 0) 1 Try.underlying34 hi0 hz0 hz1 _ _ _ _ l.length rfl rfl rfl rfl (by rw [hz2]; omega) (by unfold maxLen; omega) (Nat.le_refl _) ?_; intro w1 hown hg)
  have HO : Hid (OwnI w1 w.heap.size (.slice (some ⟨w.heap.size, 0, none⟩) l.length l.length) (shiftP l m 0)) := Lib.hid (by
    have e : (madeCells (Value.int .i64 0).cells (l.length * 1)).toList = List.replicate l.length (.int .i64 0) := by
      show (madeCells #[Value.int .i64 0] (l.length * 1)).toList = _
      rw [Nat.mul_one, made_one]
    rw [e] at hown
    unfold OwnI
    rw [shiftP_len l m 0 (Nat.zero_le _)]
    simpa [shiftP, upL] using hown)
  have HB : Hid (Below w.heap.size w w1) := Lib.hid ((Below.refl _ _).grown hg (Nat.le_refl _) (fun k hk => by cases hk))
  clear hown hg
  go_wp2
  go_loopw [13] (fun i wr => ∃ k : Nat, k ≤ l.length ∧ i = .int .i64 k ∧ Hid (OwnI wr w.heap.size (.slice (some ⟨w.heap.size, 0, none⟩) l.length l.length) (shiftP l m k)) ∧ Hid (Below w.heap.size w wr)) (fun i _ => l.length - (intOf i).toNat)
  case atStart => exact ⟨0, Nat.zero_le _, rfl, HO, HB⟩
  case round =>
    obtain ⟨k, hk, rfl, ho, hb⟩ := hrel
    clear HO HB
    by_cases hlt : k < l.length
    · obtain ⟨x, hx⟩ := lt_get hlt
      obtain ⟨b1, o1, rfl, _, q1⟩ := ints_atP (HV.out.below hb.out hh) hx
      have hxm := HX.out x (List.mem_of_getElem? hx)
      have hwr := shift_wrap x m hxm
      obtain ⟨y, hy⟩ := lt_get (l := shiftP l m k) (i := k) (by rw [shiftP_len l m k hk]; exact hlt)
      have hat := ho.out.at_ hy
      have hput := (ho.out.put (x := k) (v := ((x + m : Nat) : Int)))
      rw [shiftP_set l m k x hx] at hput
      obtain ⟨qc, qf⟩ := hat
      have R1 := Lib.hid hput.1
      have R2 : Hid (Below w.heap.size w (wr.setCell ⟨w.heap.size, k, none⟩ (.int .i64 ((x + m : Nat) : Int)))) := Lib.hid (hb.out.setCell (Nat.le_refl _) _)
      have k0 : (0 : Int) ≤ k := by omega
      have k1 : (k : Int) < l.length := by omega
      clear hput ho hb hx hy
      go_wp2
      go_roundw
      case rel => exact ⟨k + 1, by omega, by go_num, R1, R2⟩
      case measure => first | (simp [intOf]; done) | (simp [intOf]; omega)
    · have hke : k = l.length := by omega
      subst hke
      have HF : Hid (OwnI wr w.heap.size (.slice (some ⟨w.heap.size, 0, none⟩) l.length l.length) (upL (l.map (· + m)))) := Lib.hid (by have h := ho.out; rw [shiftP_all] at h; exact h)
      clear ho
      go_wp2
      go_ret
      exact ⟨_, rfl, HF.out, hb.out⟩
end

section
set_option linter.unusedVariables false
set_option linter.unusedSimpArgs false
open Go.RowKit

theorem goodI_resQ (v : Value) (f : List Nz) (r : Bool) (hr : Hid (goodB f = r)) (w : World) (lo hi : Nat) (hh : hi ≤ w.heap.size) (hv : NodesZ w lo hi v f) :
    Calls Try.prog 48 #[.agg #[v]] w fun e w' => e = .returned (.bool r) ∧ Below w.heap.size w w' := by
  rw [← hr.out]
  exact goodI_calls v f w lo hi hh hv

theorem fit_of_good {f : List Nz} (h : goodB f = true) : Fit (f.map downN) := by
  obtain ⟨h1, h2, h3, h4⟩ := (goodB_iff f).1 h
  refine ⟨by simpa using h1.1, by have := h1.2.1; simp; omega, h2.up.2.under, h4, fun nd hnd => ?_⟩
  obtain ⟨x, hx, rfl⟩ := List.mem_map.1 hnd
  have := h1.2.2 x hx
  simpa [downN, downL] using this
theorem up_of_good {f : List Nz} (h : goodB f = true) : (f.map downN).map upN = f := ((goodB_iff f).1 h).2.1.up.1

/-- a node's box -/
theorem pairN_only {b : Nat} {v1 v2 : Value} {W w1 : World} {F : Nat → Prop} (ho : Only W w1 F) (n : ¬ F b) (h : W.cell? ⟨b, 0, none⟩ = some v1 ∧ W.cell? ⟨b, 1, none⟩ = some v2) : w1.cell? ⟨b, 0, none⟩ = some v1 ∧ w1.cell? ⟨b, 1, none⟩ = some v2 :=
  ⟨(ho.cell (block_of_cell h.1) n).trans h.1, (ho.cell (block_of_cell h.2) n).trans h.2⟩
theorem pairN_below {b : Nat} {v1 v2 : Value} {W w1 : World} (hb : Below W.heap.size W w1) (h : W.cell? ⟨b, 0, none⟩ = some v1 ∧ W.cell? ⟨b, 1, none⟩ = some v2) : w1.cell? ⟨b, 0, none⟩ = some v1 ∧ w1.cell? ⟨b, 1, none⟩ = some v2 :=
  pairN_only (F := fun _ => False) (Only.of_below hb) id h

def StkPost (w : World) (base : Nat) (v0 : Value) (Pd : List Nd) (D : List (List Nd)) (ok : Bool) (e : Ending) (w' : World) : Prop :=
  Only w w' (fun b => v0.ownBlock = some b) ∧ ∃ pa pn pc ta tn tc, e = .returned (.tuple #[.slice pa pn pc, .slice ta tn tc, .bool ok]) ∧
    (ok = true → pn = (stkL Pd D).1.length ∧ tn = D.length ∧ (∃ vs, PileZ w' base (.slice pa pn pc) vs ((stkL Pd D).1.map upN) (fun g => (Value.slice ta tn tc).ownBlock = some g)) ∧ OwnI w' w.heap.size (.slice ta tn tc) (upL (stkL Pd D).2) ∧ Apart (.slice pa pn pc) (.slice ta tn tc) ∧
      ∀ g, (Value.slice pa pn pc).ownBlock = some g → g < w.heap.size → v0.ownBlock = some g)

theorem shD_take_snoc {n m : Nat} {f : List Nd} {nd : Nd} (h : f[m]? = some nd) : shD n (f.take (m + 1)) = shD n (f.take m) ++ [(nd.1.map (· + n), nd.2.map (· + n))] := by
  rw [List.take_add_one, h]
  exact shD_snoc _ _ _

theorem len_less (n : Nat) (h0 : 0 < n) (h : n ≤ 1000000) : IntKind.i64.wrap ((n : Int) - 1) = ((n - 1 : Nat) : Int) := by
  rw [show (n : Int) - 1 = ((n - 1 : Nat) : Int) from by omega]
  exact IntWalk.i64_in _ (by omega)

set_option maxRecDepth 100000 in
set_option maxHeartbeats 8000000 in
theorem stacked_calls (v0 : Value) (vs0 : List (Value × Value)) (Pd : List Nd) (X0 : Nat → Prop) (vg : Value) (Fs : List (List Nz)) (ok : Bool) (hok : Hid (Fs.all goodB = ok)) (w : World) (base lo hi : Nat) (hbase : base ≤ w.heap.size) (hP : PileZ w base v0 vs0 (Pd.map upN) X0) (hg : FormsZ w lo hi vg Fs) (hhi : hi ≤ base) (hl : Fs.length ≤ 100) (hPl : Pd.length ≤ 12500) :
    Calls Try.prog 50 #[v0, vg] w (StkPost w base v0 Pd (Fs.map (fun f => f.map downN)) ok) := by
  obtain ⟨iN, hiN, hzN0, hzN1, hzN2⟩ := info_parts infoIntA
  have HG0 := Lib.hid hg
  obtain ⟨ag, cg, hvg⟩ : ∃ a c, vg = .slice a Fs.length c := by obtain ⟨a, c, e, _⟩ := hg; exact ⟨a, c, e⟩
  subst hvg
  obtain ⟨a0, c0, hv0⟩ := hP.shape
  rw [List.length_map] at hv0
  subst hv0
  have HP0 : Hid (PileZ w base (.slice a0 Pd.length c0) vs0 ((stkL Pd []).1.map upN) (fun g => (Value.slice none 0 0).ownBlock = some g)) := Lib.hid (hP.reX (fun g _ e => by simp [Value.ownBlock] at e))
  obtain ⟨D, hD⟩ : ∃ D, Fs.map (fun f => f.map downN) = D := ⟨_, rfl⟩
  have HDL : Hid (D.length = Fs.length) := Lib.hid (by rw [← hD, List.length_map])
  have HDA : Hid (∀ (k : Nat) (f : List Nz), Fs[k]? = some f → D[k]? = some (f.map downN)) := Lib.hid (fun k f h => by rw [← hD, List.getElem?_map, h]; rfl)
  have HQ : Hid (∀ k, k ≤ Fs.length → (∀ f ∈ Fs.take k, goodB f = true) → (stkL Pd (D.take k)).1.length ≤ 25000 ∧ (stkL Pd (D.take k)).2.length = k) := Lib.hid (fun k hk hgd => by
    have h1 := stkL_len Pd (D.take k) (fun f hf => by
      rw [← hD, ← List.map_take] at hf
      obtain ⟨x, hx, rfl⟩ := List.mem_map.1 hf
      exact (fit_of_good (hgd x hx)).most)
    have h2 := stkL_tops Pd (D.take k)
    have h3 : (D.take k).length = k := by rw [List.length_take, ← hD, List.length_map]; omega
    rw [h3] at h1 h2
    omega)
  have HLT := Lib.hid hP.lt
  have HD := Lib.hid hD
  rw [hD]
  clear hP hg hD X0
  go_enter Try.func50, Try.ntmps50
  go_wp2
  go_loopw [0, 7, 15] (fun q t i wr => ∃ (k : Nat) (a : Option Addr) (c : Nat) (vs : List (Value × Value)) (ta : Option Addr) (tc : Nat), k ≤ Fs.length ∧ i = .int .i64 k ∧ q = .slice a (stkL Pd (D.take k)).1.length c ∧ t = .slice ta k tc ∧ Hid (∀ f ∈ Fs.take k, goodB f = true) ∧
      Hid (PileZ wr base (.slice a (stkL Pd (D.take k)).1.length c) vs ((stkL Pd (D.take k)).1.map upN) (fun g => (Value.slice ta k tc).ownBlock = some g)) ∧ Hid (OwnI wr w.heap.size (.slice ta k tc) (upL (stkL Pd (D.take k)).2)) ∧ Hid (Apart (.slice a (stkL Pd (D.take k)).1.length c) (.slice ta k tc)) ∧
      Hid (Only w wr (fun b => (Value.slice a0 Pd.length c0).ownBlock = some b)) ∧ Hid (∀ g, (Value.slice a (stkL Pd (D.take k)).1.length c).ownBlock = some g → g < w.heap.size → (Value.slice a0 Pd.length c0).ownBlock = some g)) (fun _ _ i _ => Fs.length - (intOf i).toNat)
  case atStart =>
    refine ⟨0, a0, c0, vs0, none, 0, Nat.zero_le _, rfl, by rw [List.take_zero]; rfl, rfl, Lib.hid (fun f hf => by simp at hf), ?_, ?_, ?_, Lib.hid (Only.refl _ _), ?_⟩
    · rw [List.take_zero]; exact HP0
    · rw [List.take_zero]; exact Lib.hid (OwnI.nil _ _)
    · exact Lib.hid (fun g h e => by simp [Value.ownBlock] at e)
    · rw [List.take_zero]; exact Lib.hid (fun g h _ => h)
  case round =>
    obtain ⟨k, a, c, vs, ta, tc, hk, rfl, rfl, rfl, hgd, hpile, htops, hap, hon, hnw⟩ := hrel
    clear HP0
    obtain ⟨hQl, hTl⟩ := HQ.out k hk hgd.out
    obtain ⟨Q, hQ⟩ : ∃ Q, (stkL Pd (D.take k)).1 = Q := ⟨_, rfl⟩
    obtain ⟨T, hT⟩ : ∃ T, (stkL Pd (D.take k)).2 = T := ⟨_, rfl⟩
    have HSK : Hid (stkL Pd (D.take k) = (Q, T)) := Lib.hid (by rw [← hQ, ← hT])
    rw [hQ] at hpile hap hnw hQl ⊢
    rw [hT] at htops hTl
    have HTL := Lib.hid hTl
    clear hQ hT hTl
    by_cases hlt : k < Fs.length
    · obtain ⟨f, hf⟩ := lt_get hlt
      have hbw : Below base w wr := hon.out.below hbase (fun g e => (HLT.out g e).1)
      obtain ⟨ao1, c1, e1, _, hn⟩ := HG0.out
      obtain ⟨b, off, vf, rfl, _, hbh, p0, i0⟩ := hn k f hf
      obtain ⟨q1, q2, q3⟩ := slice_inj e1
      subst q1 q3
      clear q2 hn e1
      have p1 := (bcell hbw b (off + k) (by omega)).trans p0
      obtain ⟨af, cf, hvf⟩ : ∃ a c, vf = .slice a f.length c := by obtain ⟨a, c, e, _⟩ := i0; exact ⟨a, c, e⟩
      subst hvf
      obtain ⟨r, hr⟩ : ∃ r, goodB f = r := ⟨_, rfl⟩
      have hsz := hon.out.size
      have hal : Below wr.heap.size wr (wr.alloc (.cells #[.slice af f.length cf] 28)) := (Below.refl _ _).alloc (Nat.le_refl _) _
      have CG := Lib.hid (goodI_resQ (.slice af f.length cf) f r (Lib.hid hr) _ lo hi (by have := hal.size; omega) ((i0.below hbw hhi).below hal (by omega)))
      have HF := Lib.hid hf
      have HI0 := Lib.hid i0
      have HR := Lib.hid hr
      have HBW := Lib.hid hbw
      have HAL := Lib.hid hal
      have k0 : (0 : Int) ≤ k := by omega
      have k1 : (k : Int) < Fs.length := by omega
      clear hf i0 hr hbw hal p0
      go_wp2_with fail
      refine CG.out.mono ?_
      rintro e w1 ⟨rfl, hb1⟩
      have hb01 : Below wr.heap.size wr w1 := HAL.out.trans (hb1.mono (by simp))
      have d1 : w1.cell? ⟨wr.heap.size, 0, none⟩ = some (.slice af f.length cf) := (bcell hb1 _ _ (by simp)).trans (by go_simp)
      have HB01 := Lib.hid hb01
      have hz1 := hb01.size
      clear hb1 CG hb01 HAL p1
      cases r with
      | false =>
        obtain rfl : ok = false := by
          rw [← hok.out]
          rw [List.all_eq_false]
          exact ⟨f, List.mem_of_getElem? HF.out, by rw [HR.out]; simp⟩
        have HON : Hid (Only w w1 (fun b => (Value.slice a0 Pd.length c0).ownBlock = some b)) := Lib.hid (hon.out.trans (Only.of_below HB01.out) (fun _ _ h => h))
        clear hpile htops hap hnw hgd hok
        go_wp2
        exact bodyPost_ret (v := .tuple #[.slice none 0 0, .slice none 0 0, .bool false]) (by simp [results, Try.results50, go_sem]) rfl ⟨HON.out, none, 0, 0, none, 0, 0, rfl, fun h => by cases h⟩
      | true =>
        have hFt := fit_of_good HR.out
        have hUP := up_of_good HR.out
        have HGD2 : Hid (∀ g ∈ Fs.take (k + 1), goodB g = true) := Lib.hid (fun g hg => by
          rw [List.take_add_one, HF.out] at hg
          rcases List.mem_append.1 hg with h | h
          · exact hgd.out g h
          · simp at h; rw [h]; exact HR.out)
        obtain ⟨fd, hfd⟩ : ∃ fd, f.map downN = fd := ⟨_, rfl⟩
        have HPR : Hid (stkL Pd (D.take (k + 1)) = stk (Q, T) fd) := Lib.hid (by
          have h := HDA.out k f HF.out
          rw [List.take_add_one, h, ← HSK.out, ← hfd]
          exact stkL_snoc _ _ _)
        have hfl : fd.length = f.length := by rw [← hfd, List.length_map]
        rw [hfd] at hFt hUP
        have HNZ := Lib.hid fun (W : World) (hW : Below base w W) => show NodesZ W lo hi (.slice af f.length cf) (fd.map upN) from by rw [hUP]; exact HI0.out.below hW hhi
        have HFT := Lib.hid hFt
        have HFL := Lib.hid hfl
        have hm := hFt.most
        rw [hfl] at hm
        have R1 : Hid (PileZ w1 base (.slice a (Q.length + 0) c) vs ((Q ++ shD Q.length (fd.take 0)).map upN) (fun g => (Value.slice ta k tc).ownBlock = some g)) := Lib.hid (by rw [List.take_zero]; simpa [shD] using hpile.out.below HB01.out)
        have R2 := Lib.hid (htops.out.below HB01.out)
        have R3 : Hid (Only w w1 (fun b => (Value.slice a0 Pd.length c0).ownBlock = some b)) := Lib.hid (hon.out.trans (Only.of_below HB01.out) (fun _ _ h => h))
        clear hpile htops hon hUP hFt hfd hfl HF HR HI0 hgd HSK
        go_wp2
        go_loopw [0, 27] (fun q i w2 => ∃ (m : Nat) (a : Option Addr) (c : Nat) (vs : List (Value × Value)), m ≤ f.length ∧ i = .int .i64 m ∧ q = .slice a (Q.length + m) c ∧
          Hid (PileZ w2 base (.slice a (Q.length + m) c) vs ((Q ++ shD Q.length (fd.take m)).map upN) (fun g => (Value.slice ta k tc).ownBlock = some g)) ∧ Hid (OwnI w2 w.heap.size (.slice ta k tc) (upL T)) ∧ Hid (Apart (.slice a (Q.length + m) c) (.slice ta k tc)) ∧
          Hid (Only w w2 (fun b => (Value.slice a0 Pd.length c0).ownBlock = some b)) ∧ Hid (∀ g, (Value.slice a (Q.length + m) c).ownBlock = some g → g < w.heap.size → (Value.slice a0 Pd.length c0).ownBlock = some g)) (fun _ i _ => f.length - (intOf i).toNat)
        case atStart => exact ⟨0, a, c, vs, Nat.zero_le _, rfl, rfl, R1, R2, hap, R3, hnw⟩
        case round =>
          obtain ⟨m, a, c, vs, hml, rfl, rfl, hpile, htops, hap, hon, hnw⟩ := hrel
          clear R1 R2 R3
          have hbw2 : Below base w wr := hon.out.below hbase (fun g e => (HLT.out g e).1)
          have hsz2 := hon.out.size
          by_cases hlt2 : m < f.length
          · obtain ⟨nd, hnd⟩ := lt_get (l := fd) (i := m) (by have := HFL.out; omega)
            obtain ⟨b2, off2, cc, v1, v2, e, hbh2, p1, p2, j1, j2⟩ := nodes_atP (HNZ.out wr hbw2) hnd
            rw [HFL.out] at e
            obtain ⟨q1, q2, q3⟩ := slice_inj e
            clear q2
            subst q1 q3
            obtain ⟨a1, d1', rfl, hd1⟩ := ints_lenP j1
            obtain ⟨a2, d2', rfl, hd2⟩ := ints_lenP j2
            have hsm := HFT.out.small nd (List.mem_of_getElem? hnd)
            have hun := HFT.out.under m nd hnd
            have hal : Below wr.heap.size wr (wr.alloc (.cells #[.slice a1 nd.1.length d1', .slice a2 nd.2.length d2'] 57)) := (Below.refl _ _).alloc (Nat.le_refl _) _
            have hx1 : (wr.alloc (.cells #[.slice a1 nd.1.length d1', .slice a2 nd.2.length d2'] 57)).cell? ⟨wr.heap.size, 0, none⟩ = some (.slice a1 nd.1.length d1') := by go_simp
            have hx2 : (wr.alloc (.cells #[.slice a1 nd.1.length d1', .slice a2 nd.2.length d2'] 57)).cell? ⟨wr.heap.size, 1, none⟩ = some (.slice a2 nd.2.length d2') := by go_simp
            have J1 := Lib.hid (j1.below hal (by omega))
            have J2 := Lib.hid (j2.below hal (by omega))
            have HPI := Lib.hid (hpile.out.below hal)
            have HTO := Lib.hid (htops.out.below hal)
            have HON : Hid (Only w (wr.alloc (.cells #[.slice a1 nd.1.length d1', .slice a2 nd.2.length d2'] 57)) (fun b => (Value.slice a0 Pd.length c0).ownBlock = some b)) := Lib.hid (hon.out.trans (Only.of_below hal) (fun _ _ h => h))
            have hz1' : (wr.alloc (.cells #[.slice a1 nd.1.length d1', .slice a2 nd.2.length d2'] 57)).heap.size = wr.heap.size + 1 := by simp
            have HSN := Lib.hid (shD_take_snoc (n := Q.length) hnd)
            have HPL : Hid (((Q ++ shD Q.length (fd.take m)).map upN).length = Q.length + m) := Lib.hid (by rw [List.length_map, List.length_append, shD_len, List.length_take]; have := HFL.out; omega)
            have k0' : (0 : Int) ≤ m := by omega
            have k1' : (m : Int) < f.length := by omega
            have hpile0 := hpile
            clear e hnd hal hpile htops hon j1 j2
            go_upto_region 11 with fail
            generalize wr.alloc (.cells #[.slice a1 nd.1.length d1', .slice a2 nd.2.length d2'] 57) = W1 at hx1 hx2 J1 J2 HPI HTO HON hz1' ⊢
            have C1 := Lib.hid fun (W : World) (hW : Below W1.heap.size W1 W) => shifted_calls (.slice a1 nd.1.length d1') nd.1 Q.length W lo hi (by have := hW.size; omega) (J1.out.below hW (by omega)) (by omega) (fun x hx => by have := hun x (Or.inl hx); omega)
            have C2 := Lib.hid fun (W : World) (hW : Below W1.heap.size W1 W) => shifted_calls (.slice a2 nd.2.length d2') nd.2 Q.length W lo hi (by have := hW.size; omega) (J2.out.below hW (by omega)) (by omega) (fun x hx => by have := hun x (Or.inr hx); omega)
            have hbd : Hid (Below W1.heap.size W1 W1.drew) := Lib.hid (below_drewN (Below.refl _ _) 1)
            have hS0 : W1.drew.cell? ⟨wr.heap.size, 0, none⟩ = some (.slice a1 nd.1.length d1') ∧ W1.drew.cell? ⟨wr.heap.size, 1, none⟩ = some (.slice a2 nd.2.length d2') := ⟨hx1, hx2⟩
            have HNB : Hid (¬ (Value.slice a (Q.length + m) c).ownBlock = some wr.heap.size) := Lib.hid (fun e => by have := (hpile0.out.lt _ e).2; omega)
            clear hsm hun J1 J2 hx1 hx2 p1 p2
            go_region_held3 (fun w' : World => w'.cell? ⟨wr.heap.size, 0, none⟩ = some (.slice a1 nd.1.length d1') ∧ w'.cell? ⟨wr.heap.size, 1, none⟩ = some (.slice a2 nd.2.length d2')) (first | exact hS0 | (go_split_ands; exact ⟨‹_›, ‹_›⟩) | (go_split_ands; exact pairN_only HAPP.out HNB.out ⟨‹_›, ‹_›⟩) | (go_split_ands; exact pairN_below ((Below.refl _ _).alloc (Nat.le_refl _) _) ⟨‹_›, ‹_›⟩) | (go_split_ands; exact pairN_below hb5 ⟨‹_›, ‹_›⟩) | (go_split_ands; exact pairN_below hb4 ⟨‹_›, ‹_›⟩)) (first
              | (go_at_call 84; (with_reducible refine (C1.out _ hbd.out).mono ?_); rintro e w4 ⟨g1, rfl, ho1, hb4⟩; have HB4 : Below W1.heap.size W1 w4 := hbd.out.trans hb4)
              | (go_at_call 84; (with_reducible refine (C2.out w4 HB4).mono ?_); rintro e w5 ⟨g2, rfl, ho2, hb5⟩; have HB5 : Below W1.heap.size W1 w5 := HB4.trans (hb5.mono HB4.size); have HP5 := HPI.out.below HB5)
              | (refine step_app_nd_at rfl _ _ rfl (HP5.below ((Below.refl _ _).alloc (Nat.le_refl _) _)).row rfl (src_nd (B := w5.heap.size) (v1 := .slice (some ⟨g1, 0, none⟩) nd.1.length nd.1.length) (v2 := .slice (some ⟨g2, 0, none⟩) nd.2.length nd.2.length) (by go_simp) (by go_simp) rfl rfl) rfl (by rw [HPL.out]; omega) (by simp; have := HB5.size; omega) ?_; intro v7 w7 hown7 hgrow7 hat7; have HAPP : Hid (Only _ w7 (fun g => (Value.slice a (Q.length + m) c).ownBlock = some g)) := Lib.hid (Only.of_grown hgrow7 (fun g e => e))))
            all_goals
              have hz5 := HB5.size
              have hlit : Below w5.heap.size w5 (w5.alloc (.cells #[.slice (some ⟨g1, 0, none⟩) nd.1.length nd.1.length, .slice (some ⟨g2, 0, none⟩) nd.2.length nd.2.length] 57)) := (Below.refl _ _).alloc (Nat.le_refl _) _
              have HBL := HB5.trans (hlit.mono hz5)
              have hzl : (w5.alloc (.cells #[.slice (some ⟨g1, 0, none⟩) nd.1.length nd.1.length, .slice (some ⟨g2, 0, none⟩) nd.2.length nd.2.length] 57)).heap.size = w5.heap.size + 1 := by simp
              obtain ⟨g7, c7, rfl, _, hg7h⟩ := hown7.form (by omega)
              have hXt : ∀ g, (Value.slice ta k tc).ownBlock = some g → g < W1.heap.size := fun g e => (HTO.out.lt g e).2
              have PS := (HPI.out.below HBL).snoc (p := (.slice (some ⟨g1, 0, none⟩) nd.1.length nd.1.length, .slice (some ⟨g2, 0, none⟩) nd.2.length nd.2.length)) (nd := upN (nd.1.map (· + Q.length), nd.2.map (· + Q.length))) hgrow7 hown7 hat7
                (intsV_own (w := W1) HPI.out hXt ho1 (by simp) (hb5.trans (hlit.mono hb5.size))) (intsV_own (w := W1) HPI.out hXt ho2 HB4.size hlit)
              rw [HPL.out] at PS
              have hF : (Q ++ shD Q.length (fd.take m)).map upN ++ [upN (nd.1.map (· + Q.length), nd.2.map (· + Q.length))] = (Q ++ shD Q.length (fd.take (m + 1))).map upN := by
                rw [HSN.out]
                simp only [List.map_append, List.map_cons, List.map_nil, List.append_assoc]
              rw [hF] at PS
              have S1 : Hid (PileZ w7 base (.slice (some ⟨g7, 0, none⟩) (Q.length + (m + 1)) c7) _ ((Q ++ shD Q.length (fd.take (m + 1))).map upN) (fun g => (Value.slice ta k tc).ownBlock = some g)) := Lib.hid PS
              have OL : Only w (w5.alloc (.cells #[.slice (some ⟨g1, 0, none⟩) nd.1.length nd.1.length, .slice (some ⟨g2, 0, none⟩) nd.2.length nd.2.length] 57)) (fun b => (Value.slice a0 Pd.length c0).ownBlock = some b) := HON.out.trans (Only.of_below HBL) (fun _ _ h => h)
              have S4 : Hid (Only w w7 (fun b => (Value.slice a0 Pd.length c0).ownBlock = some b)) := Lib.hid (OL.trans HAPP.out (fun g hg e => hnw.out g e hg))
              have S2 : Hid (OwnI w7 w.heap.size (.slice ta k tc) (upL T)) := Lib.hid ((HTO.out.below HBL).only HAPP.out (fun g e1 e2 => hap.out g e2 e1))
              have hown7b : (Value.slice (some ⟨g7, 0, none⟩) (Q.length + (m + 1)) c7).ownBlock = (Value.slice a (Q.length + m) c).ownBlock ∨ (Value.slice (some ⟨g7, 0, none⟩) (Q.length + (m + 1)) c7).ownBlock = some (w5.heap.size + 1) := by
                rw [hzl] at hat7
                exact hat7
              have S3 : Hid (Apart (.slice (some ⟨g7, 0, none⟩) (Q.length + (m + 1)) c7) (.slice ta k tc)) := Lib.hid (fun g e1 e2 => by
                rcases hown7b with e | e
                · exact hap.out g (e ▸ e1) e2
                · rw [e] at e1; injection e1 with e1; have := hXt g e2; omega)
              have S5 : Hid (∀ g, (Value.slice (some ⟨g7, 0, none⟩) (Q.length + (m + 1)) c7).ownBlock = some g → g < w.heap.size → (Value.slice a0 Pd.length c0).ownBlock = some g) := Lib.hid (fun g e1 e2 => by
                rcases hown7b with e | e
                · exact hnw.out g (e ▸ e1) e2
                · rw [e] at e1; injection e1 with e1; omega)
              have hvn : ((Q ++ shD Q.length (fd.take m)).map upN).length + 1 = Q.length + (m + 1) := by rw [HPL.out]; omega
              rw [hvn]
              clear hown7 hgrow7 hat7 HAPP PS OL hF hvn hown7b hlit HBL hzl ho1 ho2 hb4 hb5 HB4 HB5 HP5 C1 C2 HPI HTO HON hnw hap hpile0 HSN HPL
              go_wp2
              go_roundw
              case rel => exact ⟨m + 1, some ⟨g7, 0, none⟩, c7, _, by omega, by go_num, rfl, S1, S2, S3, S4, S5⟩
              case measure => first | (simp [intOf]; done) | (simp [intOf]; omega)
          · have hml2 : m = f.length := by omega
            subst hml2
            have hfl := HFL.out
            rw [List.take_of_length_le (by omega)] at hpile
            have hpos := HFT.out.pos
            obtain ⟨N, hN⟩ : ∃ N, Q.length + f.length = N := ⟨_, rfl⟩
            have hN1 : 0 < N := by omega
            have hN2 : N ≤ 1000000 := by omega
            have hwl := len_less N hN1 hN2
            have HE1 : Hid ((stkL Pd (D.take (k + 1))).1 = Q ++ shD Q.length fd) := Lib.hid (by rw [HPR.out]; rfl)
            have HE2 : Hid ((stkL Pd (D.take (k + 1))).2 = T ++ [N - 1]) := Lib.hid (by rw [HPR.out, ← hN, ← hfl]; rfl)
            have HEL : Hid ((stkL Pd (D.take (k + 1))).1.length = N) := Lib.hid (by rw [HE1.out, List.length_append, shD_len]; omega)
            rw [hN] at hpile hap hnw ⊢
            have HTN := Lib.hid (show (upL T).length = k from by rw [upL_len]; exact HTL.out)
            have hown0 := Lib.hid (World.ownsRow.alloc htops.out (.cells #[.int .i64 ((N - 1 : Nat) : Int)] 3))
            rw [HTN.out] at hown0
            clear hN hpos hfl d1 HNZ HFT HPR HFL hbw2 hlt2
            go_wp2_with (at_builtin; refine wpList_append_own_at _ rfl _ _ 34 rfl w.heap.size 3 iN (.int .i64 0) 1 8 Try.underlying34 hiN hzN0 hzN1 hzN2 rfl (by decide) _ _ _ rfl hown0.out ⟨wr.heap.size, 0, none⟩ 1 1 [.int .i64 ((N - 1 : Nat) : Int)] rfl rfl (cell_one_new _ _ _) (by simp [Value.oneCell']) (by unfold maxLen; omega) (by omega) (by simp; omega) ?_; intro v7 w7 hown7 hgrow7 hnil7 hat7)
            obtain ⟨g7, c7, rfl, _, hg7h⟩ := hown7.form (by omega)
            have hL : Below wr.heap.size wr (wr.alloc (.cells #[.int .i64 ((N - 1 : Nat) : Int)] 3)) := (Below.refl _ _).alloc (Nat.le_refl _) _
            have hzL : (wr.alloc (.cells #[.int .i64 ((N - 1 : Nat) : Int)] 3)).heap.size = wr.heap.size + 1 := by simp
            have HAPP : Only (wr.alloc (.cells #[.int .i64 ((N - 1 : Nat) : Int)] 3)) w7 (fun g => (Value.slice ta k tc).ownBlock = some g) := Only.of_grown hgrow7 (fun g e => e)
            have hpl := hpile.out.lt
            have htl := htops.out.lt
            have hat : ∀ g, (Value.slice (some ⟨g7, 0, none⟩) (k + 1) c7).ownBlock = some g → (Value.slice ta k tc).ownBlock = some g ∨ g = wr.heap.size + 1 := fun g e => by
              rcases hat7 with h | h
              · exact Or.inl (h.symm.trans e)
              · right; have h2 := h.symm.trans e; rw [hzL] at h2; injection h2 with h2; exact h2.symm
            have S1 : Hid (PileZ w7 base (.slice a N c) vs ((stkL Pd (D.take (k + 1))).1.map upN) (fun g => (Value.slice (some ⟨g7, 0, none⟩) (k + 1) c7).ownBlock = some g)) := Lib.hid (by
              rw [HE1.out]
              exact (((hpile.out.below hL).reX (Y := fun g => (Value.slice ta k tc).ownBlock = some g ∨ g = wr.heap.size + 1) (fun g hg e => e.resolve_right (by omega))).only (HAPP.mono (fun _ _ e => Or.inl e)) (fun g e h => by
                rcases h with h | h
                · exact hap.out g e h
                · have := (hpl g e).2; omega)).reX (fun g _ e => hat g e))
            have S2 : Hid (OwnI w7 w.heap.size (.slice (some ⟨g7, 0, none⟩) (k + 1) c7) (upL (stkL Pd (D.take (k + 1))).2)) := Lib.hid (by
              rw [HE2.out]
              have e1 : upL (T ++ [N - 1]) = upL T ++ [((N - 1 : Nat) : Int)] := by unfold upL; rw [List.map_append]; rfl
              rw [e1]
              unfold OwnI
              rw [List.map_append, List.length_append, HTN.out]
              exact hown7)
            have S3 : Hid (Apart (.slice a N c) (.slice (some ⟨g7, 0, none⟩) (k + 1) c7)) := Lib.hid (fun g e1 e2 => by
              rcases hat g e2 with h | h
              · exact hap.out g e1 h
              · have := (hpl g e1).2; omega)
            have S4 : Hid (Only w w7 (fun b => (Value.slice a0 Pd.length c0).ownBlock = some b)) := Lib.hid ((hon.out.trans (Only.of_below hL) (fun _ _ h => h)).trans HAPP (fun g hg e => by have := (htl g e).1; omega))
            have S5 := hnw
            have hS1 := S1
            clear hown7 hgrow7 hnil7 hat7 hL hzL HAPP hpl htl hat hpile htops hap hon hnw hown0 hS1 hwl
            go_wp2
            go_roundw
            case rel => exact ⟨k + 1, a, c, vs, some ⟨g7, 0, none⟩, c7, by omega, by go_num, by rw [HEL.out], rfl, HGD2, by rw [HEL.out]; exact S1, S2, by rw [HEL.out]; exact S3, S4, by rw [HEL.out]; exact S5⟩
            case measure => first | (simp [intOf]; done) | (simp [intOf]; omega)
    · have hke : k = Fs.length := by omega
      subst hke
      rw [List.take_of_length_le (Nat.le_refl _)] at hgd
      have hD2 : D.take Fs.length = D := List.take_of_length_le (by rw [HDL.out]; exact Nat.le_refl _)
      rw [hD2] at HSK
      obtain rfl : ok = true := by
        rw [← hok.out, List.all_eq_true]
        exact hgd.out
      have HQ2 : Hid ((stkL Pd D).1 = Q) := Lib.hid (by rw [HSK.out])
      have HT2 : Hid ((stkL Pd D).2 = T) := Lib.hid (by rw [HSK.out])
      clear hD2 hok
      go_wp2
      refine bodyPost_ret (v := .tuple #[.slice a Q.length c, .slice ta Fs.length tc, .bool true]) (by simp [results, Try.results50, go_sem]) rfl ⟨hon.out, a, Q.length, c, ta, Fs.length, tc, rfl, fun _ => ?_⟩
      rw [HQ2.out, HT2.out, HDL.out]
      exact ⟨rfl, rfl, ⟨vs, hpile.out⟩, htops.out, hap.out, hnw.out⟩
end

section
set_option linter.unusedVariables false
set_option linter.unusedSimpArgs false

theorem bOf_leftL (P : List Nd) (x : Nd) (k : Nat) (hk : k < P.length) : bOf (P ++ [x]) k = bOf P k := by
  unfold bOf
  exact getD_pre (bornsOf_pre P [x]) k (by rw [bornsOf_len]; exact hk)

/-- a node put behind nodes that are in order is in order, if it is born last -/
theorem rising_snocL {out : List Nd} {y : Nd} (hr : RisingBy out (bOf out)) (hl : ∀ k, k < out.length → bOf out k < bOf (out ++ [y]) out.length) : RisingBy (out ++ [y]) (bOf (out ++ [y])) := by
  intro k a b ha hb
  have hk := get_lt hb
  simp at hk
  rcases Nat.lt_or_ge (k + 1) out.length with h | h
  · rw [List.getElem?_append_left (by omega)] at ha hb
    rw [bOf_leftL _ _ _ (by omega), bOf_leftL _ _ _ h]
    exact hr k a b ha hb
  · have e : k + 1 = out.length := by omega
    left
    rw [bOf_leftL _ _ _ (by omega), e]
    exact hl k (by omega)

theorem struct_snocL {out : List Nd} {y : Nd} (hs : Struct out) (h1 : y.1.Pairwise (· < ·)) (h2 : y.2.Pairwise (· < ·)) (h3 : ∀ x, x ∈ y.1 ∨ x ∈ y.2 → x < out.length) : Struct (out ++ [y]) := by
  intro k nd hk
  rcases Nat.lt_or_ge k out.length with h | h
  · rw [List.getElem?_append_left h] at hk
    exact hs k nd hk
  · rw [List.getElem?_append_right h] at hk
    have hl := get_lt hk
    simp at hl
    have e : k = out.length := by omega
    subst e
    simp at hk
    subst hk
    exact ⟨h1, h2, h3⟩

/-- the form of a game on top of others, which is born last -/
theorem form_top {P out : List Nd} {pl : Nat → Nat} {x : Nd} (hu : Under P) (hx : ∀ t, t ∈ x.1 ∨ t ∈ x.2 → t < P.length) (h : Canon P (bOf P) (fun _ => True) out pl)
    (hb : ∀ k, k < P.length → ∃ t, (t ∈ x.1 ∨ t ∈ x.2) ∧ bOf P k ≤ bOf P t) (hr : ∀ k, k < (P ++ [x]).length → Reached (P ++ [x]) ((P ++ [x]).length - 1) k) : formM (P ++ [x]) = out ++ [movd pl x] := by
  have hbP := births_bOf P hu
  have hsh : Shut P (fun _ => True) := fun _ _ _ _ _ _ => trivial
  have hs := Canon.struct hbP hsh hu h
  have hbo := births_bOf out hs.under
  have hri := Canon.rising hbP hsh hu h hbo
  have hbs := Canon.births hbP hsh hu h hbo
  have hpl : ∀ t, t < P.length → pl t < out.length := fun t ht => h.placed ht trivial
  have hm : ∀ y, y ∈ (movd pl x).1 ∨ y ∈ (movd pl x).2 → y < out.length := fun y hy => by
    unfold movd at hy
    simp only [mem_sortd, List.mem_map] at hy
    rcases hy with ⟨t, ht, rfl⟩ | ⟨t, ht, rfl⟩
    · exact hpl t (hx t (Or.inl ht))
    · exact hpl t (hx t (Or.inr ht))
  have hs2 : Struct (out ++ [movd pl x]) := struct_snocL hs (sortd_asc _) (sortd_asc _) hm
  have hb2 := births_bOf _ hs2.under
  have hr2 : RisingBy (out ++ [movd pl x]) (bOf (out ++ [movd pl x])) := by
    refine rising_snocL (fun k a b ha hb => hri k (k + 1) a b ha hb (by omega)) fun i hi => ?_
    rw [hb2 out.length (movd pl x) (by simp)]
    obtain ⟨k, hk, _, rfl⟩ := h.from' i hi
    obtain ⟨t, ht, hle⟩ := hb k hk
    have htl := hx t ht
    have hmem : pl t ∈ (movd pl x).1 ∨ pl t ∈ (movd pl x).2 := by
      unfold movd
      simp only [mem_sortd, List.mem_map]
      rcases ht with ht | ht
      · exact Or.inl ⟨t, ht, rfl⟩
      · exact Or.inr ⟨t, ht, rfl⟩
    have hlt := lastOf_lt (bOf (out ++ [movd pl x])) (movd pl x) (pl t) hmem
    rw [bOf_leftL _ _ _ (hpl t htl), hbs t htl trivial] at hlt
    rw [hbs k hk trivial]
    omega
  have hu2 : Under (P ++ [x]) := by
    intro k nd hk y hy
    rcases Nat.lt_or_ge k P.length with hlt | hge
    · rw [List.getElem?_append_left hlt] at hk
      exact hu k nd hk y hy
    · rw [List.getElem?_append_right hge] at hk
      have hl := get_lt hk
      simp at hl
      have e : k = P.length := by omega
      subst e
      simp at hk
      subst hk
      exact hx y hy
  refine (order_is hu2 (by simp) hr (canon_via (pl := fun k => if k < P.length then pl k else out.length) hu2 hs2 hr2 (fun k nd hk => ?_) (fun i hi => ?_))).symm
  · rcases Nat.lt_or_ge k P.length with hlt | hge
    · rw [List.getElem?_append_left hlt] at hk
      rw [if_pos hlt, List.getElem?_append_left (hpl k hlt), h.node k nd hk trivial]
      refine congrArg some (movd_congr _ _ nd fun y hy => ?_)
      have := hu k nd hk y hy
      rw [if_pos (by omega)]
    · rw [List.getElem?_append_right hge] at hk
      have hl := get_lt hk
      simp at hl
      have e : k = P.length := by omega
      subst e
      simp at hk
      subst hk
      rw [if_neg (by omega), List.getElem?_append_right (Nat.le_refl _)]
      simp only [Nat.sub_self, List.getElem?_cons_zero]
      refine congrArg some (movd_congr _ _ x fun y hy => ?_)
      rw [if_pos (hx y hy)]
  · simp at hi
    rcases Nat.lt_or_ge i out.length with hlt | hge
    · obtain ⟨k, hk, _, rfl⟩ := h.from' i hlt
      exact ⟨k, by simp; omega, by rw [if_pos hk]⟩
    · exact ⟨P.length, by simp, by rw [if_neg (by omega)]; omega⟩

/-- a game in order within others in order is what is cut out of them -/
theorem part_back {G out : List Nd} {q : Nat → Nat} (hG : Struct G) (hGr : RisingBy G (bOf G)) (hGu : Used G) (h0 : 0 < G.length) (hs : Struct out) (hr : RisingBy out (bOf out)) (hq : ∀ (k : Nat) (nd : Nd), G[k]? = some nd → out[q k]? = some (movd q nd)) : partI out (q (G.length - 1)) = G := by
  have hql : ∀ k, k < G.length → q k < out.length := fun k hk => by
    obtain ⟨nd, hnd⟩ := lt_get hk
    exact get_lt (hq k nd hnd)
  have htop := hql (G.length - 1) (by omega)
  have hre := fun i => reachF_is out hs.under (q (G.length - 1)) htop i
  have hbo := births_bOf out hs.under
  have hsh : Shut out (fun k => (reachF out (q (G.length - 1))).getD k false = true) := fun k nd hk hn x hx => (hre x).2 (.opt ((hre k).1 hn) hk hx)
  have hc := part_canon out hs hr.rising (fun k => (reachF out (q (G.length - 1))).getD k false) hsh (q (G.length - 1)) htop (fun k hk => ((hre k).1 hk).le hs.under)
  have hps := Canon.struct hbo hsh hs.under hc
  have hpr := Canon.rising hbo hsh hs.under hc (births_bOf _ hps.under)
  have hgo : ∀ k, Reached G (G.length - 1) k → Reached out (q (G.length - 1)) (q k) := fun k hk => by
    induction hk with
    | root => exact .root
    | opt _ hn hx ih =>
      refine .opt ih (hq _ _ hn) ?_
      unfold movd
      simp only [mem_sortd, List.mem_map]
      rcases hx with hx | hx
      · exact Or.inl ⟨_, hx, rfl⟩
      · exact Or.inr ⟨_, hx, rfl⟩
  have hba : ∀ z, Reached out (q (G.length - 1)) z → ∃ k, k < G.length ∧ q k = z := fun z hz => by
    induction hz with
    | root => exact ⟨G.length - 1, by omega, rfl⟩
    | opt _ hn hx ih =>
      obtain ⟨k, hk, rfl⟩ := ih
      obtain ⟨nd, hnd⟩ := lt_get hk
      rw [hq k nd hnd] at hn
      injection hn with hn
      subst hn
      unfold movd at hx
      simp only [mem_sortd, List.mem_map] at hx
      rcases hx with ⟨y, hy, rfl⟩ | ⟨y, hy, rfl⟩
      · exact ⟨y, by have := (hG k nd hnd).2.2 y (Or.inl hy); omega, rfl⟩
      · exact ⟨y, by have := (hG k nd hnd).2.2 y (Or.inr hy); omega, rfl⟩
  have hneed : ∀ k, k < G.length → (reachF out (q (G.length - 1))).getD (q k) false = true := fun k hk => (hre _).2 (hgo k (reached_used hG.under hGu k hk))
  have hcg := canon_via (P := G) (out := partI out (q (G.length - 1))) (pl := fun k => (partN out (fun k => (reachF out (q (G.length - 1))).getD k false) (q (G.length - 1)) (q (G.length - 1) + 1)).1.getD (q k) 0) hG.under hps (fun k a b ha hb => hpr k (k + 1) a b ha hb (by omega)) (fun k nd hk => by
      have := hc.node (q k) _ (hq k nd hk) (hneed k (get_lt hk))
      rw [movd_movd] at this
      exact this) (fun i hi => by
      obtain ⟨j, hj, hn, rfl⟩ := hc.from' i hi
      obtain ⟨k, hk, rfl⟩ := hba j ((hre j).1 hn)
      exact ⟨k, hk, rfl⟩)
  exact (Canon.unique (births_bOf G hG.under) (fun _ _ _ _ _ _ => trivial) hG.under hcg (canon_of_rising hG (births_bOf G hG.under) hGr.rising)).1

/-- a game within others: its top is the one that its places come to -/
structure Ord (f : List Nd) : Prop where
  pos : 0 < f.length
  struct : Struct f
  rise : RisingBy f (bOf f)
  used : Used f

theorem sortd_two (i j : Nat) : sortd [i, j] = if i < j then [i, j] else if j < i then [j, i] else [i] := by
  unfold sortd
  simp only [List.foldl_cons, List.foldl_nil]
  by_cases h1 : i < j
  · rw [if_pos h1]
    simp [putN, h1]
  · rw [if_neg h1]
    by_cases h2 : j < i
    · rw [if_pos h2]
      simp [putN, h1, show ¬ i = j by omega]
    · rw [if_neg h2]
      have : i = j := by omega
      subst this
      simp [putN]
end

section
set_option linter.unusedVariables false
set_option linter.unusedSimpArgs false

theorem shD_zero (f : List Nd) : shD 0 f = f := by
  unfold shD
  simp
theorem stk_one (A : List Nd) : stkL [] [A] = (A, [A.length - 1]) := by
  show stk ([], []) A = _
  unfold stk
  simp only [List.length_nil, List.nil_append, Nat.zero_add, shD_zero]
theorem stk_two (A B : List Nd) : stkL [] [A, B] = (A ++ shD A.length B, [A.length - 1, A.length + B.length - 1]) := by
  show stk (stkL [] [A]) B = _
  rw [stk_one]
  unfold stk
  rfl
theorem mk_one (A : List Nd) : mkD [A] [] = A ++ [([A.length - 1], [])] := by
  unfold mkD
  rw [stk_one, stkL_nil]
theorem mk_two (A B : List Nd) : mkD [A, B] [] = (A ++ shD A.length B) ++ [([A.length - 1, A.length + B.length - 1], [])] := by
  unfold mkD
  rw [stk_two, stkL_nil]

theorem good_fit {f : List Nz} (h : goodB f = true) : Fit (f.map downN) := by
  obtain ⟨h1, h2, h3, h4, h5, h6⟩ := good_parts h
  exact ⟨by rw [List.length_map]; exact h4, by rw [List.length_map]; omega, h2, h3, h6⟩
theorem good_ord {f : List Nz} (h : goodB f = true) : Ord (f.map downN) := by
  obtain ⟨h1, h2, h3, h4⟩ := (goodB_iff f).1 h
  exact ⟨by rw [List.length_map]; exact h1.1, h2.up.2, h3, h4⟩

/-- a game with one option -/
theorem ls_one {A : List Nd} (hf : Fit A) (h : Ord A) : formM (mkD [A] []) = A ++ [([A.length - 1], [])] := by
  have hp := h.pos
  rw [mk_one]
  have hb := births_bOf A h.struct.under
  have hc := canon_of_rising h.struct hb h.rise.rising
  have hr := mkD_reach (ls := [A]) (rs := []) (fun f hf' => by simp at hf'; subst hf'; exact hf) (fun f hf' => by simp at hf')
  rw [mk_one] at hr
  have := form_top (x := ([A.length - 1], [])) h.struct.under (fun t ht => by simp at ht; omega) hc (fun k hk => ⟨A.length - 1, Or.inl (by simp), by
    rcases (reached_used h.struct.under h.used k hk).born hb with e | e
    · rw [← e]
      exact Nat.le_refl _
    · omega⟩) hr
  rw [this]
  unfold movd sortd
  simp [putN]

theorem two_under {A B : List Nd} (hA : Under A) (hB : Under B) : Under (A ++ shD A.length B) := under_sh hA hB

/-- a game with two options -/
theorem ls_two {A B out : List Nd} {pl : Nat → Nat} (fA : Fit A) (fB : Fit B) (hc : Canon (A ++ shD A.length B) (bOf (A ++ shD A.length B)) (fun _ => True) out pl) :
    formM (mkD [A, B] []) = out ++ [(sortd [pl (A.length - 1), pl (A.length + B.length - 1)], [])] := by
  have pA := fA.pos
  have pB := fB.pos
  have hr := mkD_reach (ls := [A, B]) (rs := []) (fun f hf' => by simp at hf'; rcases hf' with rfl | rfl <;> assumption) (fun f hf' => by simp at hf')
  rw [mk_two] at hr ⊢
  have hu := two_under fA.under fB.under
  have hb := births_bOf _ hu
  have hl : (A ++ shD A.length B).length = A.length + B.length := by rw [List.length_append, shD_len]
  have := form_top (x := ([A.length - 1, A.length + B.length - 1], [])) hu (fun t ht => by simp at ht; rw [hl]; omega) hc (fun k hk => by
    rw [hl] at hk
    rcases Nat.lt_or_ge k A.length with hlt | hge
    · refine ⟨A.length - 1, Or.inl (by simp), ?_⟩
      rcases ((reached_used fA.under fA.used k hlt).pre (List.prefix_append A (shD A.length B))).born hb with e | e
      · rw [← e]
        exact Nat.le_refl _
      · omega
    · refine ⟨A.length + B.length - 1, Or.inl (by simp), ?_⟩
      have h1 := (reached_used fB.under fB.used (k - A.length) (by omega)).sh (P := A)
      rw [show A.length + (B.length - 1) = A.length + B.length - 1 by omega, show A.length + (k - A.length) = k by omega] at h1
      rcases h1.born hb with e | e
      · rw [← e]
        exact Nat.le_refl _
      · omega) hr
  rw [this]
  rfl

/-- the model's two games -/
def lsM (A B : List Nd) : List Nd := formM (mkD [A, B] [])
def ls1 (A : List Nd) : List Nd := formM (mkD [A] [])
/-- a game's first option on the left -/
def fstL (M : List Nd) : Nat := (M.getD (M.length - 1) ([], [])).1.getD 0 0
theorem fstL_snoc (M : List Nd) (nd : Nd) : fstL (M ++ [nd]) = nd.1.getD 0 0 := by
  unfold fstL
  rw [List.getD_eq_getElem?_getD]
  simp

def lessD (A B : List Nd) : Bool := !decide (A = B) && decide (partI (lsM A B) (fstL (lsM A B)) = partI (ls1 A) (fstL (ls1 A)))

theorem same_place {A : List Nd} {out : List Nd} {pl : Nat → Nat} (hA : Under A) (hc : Canon (A ++ shD A.length A) (bOf (A ++ shD A.length A)) (fun _ => True) out pl) : ∀ k, k < A.length → pl (A.length + k) = pl k := by
  intro k
  induction k using Nat.strongRecOn with
  | ind k ih =>
    intro hk
    obtain ⟨nd, hnd⟩ := lt_get hk
    have hl : (A ++ shD A.length A).length = A.length + A.length := by rw [List.length_append, shD_len]
    have e1 : (A ++ shD A.length A)[k]? = some nd := by rw [List.getElem?_append_left hk]; exact hnd
    have e2 : (A ++ shD A.length A)[A.length + k]? = some (nd.1.map (· + A.length), nd.2.map (· + A.length)) := by
      rw [List.getElem?_append_right (by omega), show A.length + k - A.length = k by omega]
      exact shD_at hnd
    have o1 := hc.node k nd e1 trivial
    have o2 := hc.node (A.length + k) _ e2 trivial
    refine (hc.once k (A.length + k) (by omega) (by omega) trivial trivial ?_).symm
    rw [o1, o2]
    refine congrArg some ?_
    unfold movd
    simp only [List.map_map, Function.comp_def]
    have hx : ∀ x, x ∈ nd.1 ∨ x ∈ nd.2 → pl x = pl (x + A.length) := fun x hx => by
      have h1 := hA k nd hnd x hx
      rw [Nat.add_comm]
      exact (ih x h1 (by omega)).symm
    rw [List.map_congr_left (fun x h => hx x (Or.inl h)), List.map_congr_left (fun x h => hx x (Or.inr h))]

/-- the places of two games tell which one is ahead -/
theorem less_is {A B out : List Nd} {pl : Nat → Nat} (fA : Fit A) (fB : Fit B) (oA : Ord A) (oB : Ord B) (hc : Canon (A ++ shD A.length B) (bOf (A ++ shD A.length B)) (fun _ => True) out pl) :
    lessD A B = decide (pl (A.length - 1) < pl (A.length + B.length - 1)) := by
  have pA := fA.pos
  have pB := fB.pos
  have e2 := ls_two fA fB hc
  have e1 := ls_one fA oA
  have hu2 := mkD_under (ls := [A, B]) (rs := []) (fun f hf' => by simp at hf'; rcases hf' with rfl | rfl <;> assumption) (fun f hf' => by simp at hf')
  have hr2 := mkD_reach (ls := [A, B]) (rs := []) (fun f hf' => by simp at hf'; rcases hf' with rfl | rfl <;> assumption) (fun f hf' => by simp at hf')
  obtain ⟨_, s2, r2, _⟩ := formM_canon _ hu2 (by rw [mk_two]; simp; omega) hr2
  have hu1 := mkD_under (ls := [A]) (rs := []) (fun f hf' => by simp at hf'; subst hf'; assumption) (fun f hf' => by simp at hf')
  have hr1 := mkD_reach (ls := [A]) (rs := []) (fun f hf' => by simp at hf'; subst hf'; assumption) (fun f hf' => by simp at hf')
  obtain ⟨_, s1, r1, _⟩ := formM_canon _ hu1 (by rw [mk_one]; simp) hr1
  rw [e2] at s2 r2
  rw [e1] at s1 r1
  have P1 : partI (ls1 A) (fstL (ls1 A)) = A := by
    unfold ls1
    rw [e1, fstL_snoc]
    refine part_back (q := fun x => x) oA.struct oA.rise oA.used pA s1 r1 fun k nd hk => ?_
    rw [movd_id oA.struct hk, List.getElem?_append_left (get_lt hk)]
    exact hk
  have hlt : ∀ k, k < A.length + B.length → pl k < out.length := fun k hk => hc.placed (by rw [List.length_append, shD_len]; exact hk) trivial
  have PA : partI (out ++ [(sortd [pl (A.length - 1), pl (A.length + B.length - 1)], [])]) (pl (A.length - 1)) = A := part_back (q := pl) oA.struct oA.rise oA.used pA s2 r2 fun k nd hk => by
    have hkl := get_lt hk
    rw [List.getElem?_append_left (hlt k (by omega))]
    exact hc.node k nd (by rw [List.getElem?_append_left hkl]; exact hk) trivial
  have PB : partI (out ++ [(sortd [pl (A.length - 1), pl (A.length + B.length - 1)], [])]) (pl (A.length + B.length - 1)) = B := by
    have := part_back (q := fun k => pl (A.length + k)) oB.struct oB.rise oB.used pB s2 r2 fun k nd hk => by
      have hkl := get_lt hk
      rw [List.getElem?_append_left (hlt _ (by omega))]
      have h1 := hc.node (A.length + k) (nd.1.map (· + A.length), nd.2.map (· + A.length)) (by
        rw [List.getElem?_append_right (by omega), show A.length + k - A.length = k by omega]
        exact shD_at hk) trivial
      rw [h1]
      refine congrArg some ?_
      unfold movd
      simp only [List.map_map, Function.comp_def, Nat.add_comm]
    rw [show A.length + (B.length - 1) = A.length + B.length - 1 by omega] at this
    exact this
  unfold lessD
  rw [P1]
  unfold lsM
  rw [e2, fstL_snoc]
  show (!decide (A = B) && decide (partI _ ((sortd [pl (A.length - 1), pl (A.length + B.length - 1)]).getD 0 0) = A)) = _
  by_cases hi : pl (A.length - 1) < pl (A.length + B.length - 1)
  · have hne : A ≠ B := fun e => by
      subst e
      have := same_place fA.under hc (A.length - 1) (by omega)
      rw [show A.length + (A.length - 1) = A.length + A.length - 1 by omega] at this
      omega
    have e0 : (sortd [pl (A.length - 1), pl (A.length + B.length - 1)]).getD 0 0 = pl (A.length - 1) := by rw [sortd_two, if_pos hi]; rfl
    rw [e0, PA]
    simp [hi, hne]
  · by_cases hj : pl (A.length + B.length - 1) < pl (A.length - 1)
    · have e0 : (sortd [pl (A.length - 1), pl (A.length + B.length - 1)]).getD 0 0 = pl (A.length + B.length - 1) := by rw [sortd_two, if_neg hi, if_pos hj]; rfl
      rw [e0, PB]
      by_cases hab : A = B
      · rw [decide_eq_false hi, decide_eq_true hab]
        rfl
      · have : ¬ B = A := fun e => hab e.symm
        rw [decide_eq_false hi, decide_eq_false this, Bool.and_false]
    · have he : pl (A.length - 1) = pl (A.length + B.length - 1) := by omega
      have hab : A = B := by
        rw [show partI (out ++ [(sortd [pl (A.length - 1), pl (A.length + B.length - 1)], [])]) (pl (A.length - 1)) = partI (out ++ [(sortd [pl (A.length - 1), pl (A.length + B.length - 1)], [])]) (pl (A.length + B.length - 1)) from congrArg _ he] at PA
        exact PA.symm.trans PB
      rw [decide_eq_false hi, decide_eq_true hab]
      rfl

def lessV (f g : List Nz) : Bool := (goodB f && goodB g) && lessD (f.map downN) (g.map downN)
def lessOk (f g : List Nz) : Bool := goodB f && goodB g
end

section
open Go.RowKit
set_option linter.unusedVariables false
set_option linter.unusedSimpArgs false

/-- two forms that lie side by side -/
theorem formsZ_pair {w : World} {B : Nat} {v v' : Value} {f g : List Nz} {lo hi : Nat} (h1 : w.cell? ⟨B, 0, none⟩ = some v) (h2 : w.cell? ⟨B, 1, none⟩ = some v') (n1 : NodesZ w lo hi v f) (n2 : NodesZ w lo hi v' g) (hlo : lo ≤ B) (hhi : B < hi) : FormsZ w lo hi (.slice (some ⟨B, 0, none⟩) 2 2) [f, g] :=
  ⟨_, 2, rfl, ⟨by simp, by simp⟩, fun j x hj => by
    match j, hj with
    | 0, hj => simp at hj; subst hj; exact ⟨B, 0, v, rfl, hlo, hhi, h1, n1⟩
    | 1, hj => simp at hj; subst hj; exact ⟨B, 0, v', rfl, hlo, hhi, h2, n2⟩⟩

theorem own_two {w : World} {base c : Nat} {a : Option Addr} {x y : Nat} (h : OwnI w base (.slice a 2 c) (upL [x, y])) : ∃ g, a = some ⟨g, 0, none⟩ ∧ w.cell? ⟨g, 0, none⟩ = some (.int .i64 x) ∧ w.cell? ⟨g, 1, none⟩ = some (.int .i64 y) := by
  rcases h.2 with ⟨h1, h0⟩ | ⟨g, c', cs, h1, _⟩
  · injection h1 with _ h1 _
    cases h1
  · injection h1 with h1 _ h3
    subst h1 h3
    refine ⟨g, rfl, ?_, ?_⟩
    · have := World.ownsRow.cellAt h 0 (by simp [upL])
      rw [this]; rfl
    · have := World.ownsRow.cellAt h 1 (by simp [upL])
      rw [this]; rfl

theorem own_at {w : World} {base g n c : Nat} {Q : List Nat} (h : OwnI w base (.slice (some ⟨g, 0, none⟩) n c) (upL Q)) : n = Q.length ∧ ∀ (i x : Nat), Q[i]? = some x → w.cell? ⟨g, i, none⟩ = some (.int .i64 (x : Int)) := by
  have hn : n = Q.length := by
    rcases h.2 with ⟨h1, h0⟩ | ⟨g', c', cs, h1, _⟩
    · cases h1
    · injection h1 with _ h1 _
      rw [h1]
      simp [upL]
  refine ⟨hn, fun i x hx => ?_⟩
  subst hn
  have hl : (upL Q).length = Q.length := by simp [upL]
  unfold OwnI at h
  rw [hl] at h
  rw [World.ownsRow.cellAt h i (by have := get_lt hx; omega)]
  unfold upL
  rw [List.getElem?_map, List.getElem?_map, hx]
  rfl

set_option maxRecDepth 100000 in
set_option maxHeartbeats 4000000 in
theorem lessI_calls (va vb : Value) (f g : List Nz) (a ok : Bool) (hok : Hid ((goodB f && goodB g) = ok)) (ha : Hid (lessV f g = a)) (w : World) (lo hi lo' hi' : Nat) (hh : hi ≤ w.heap.size) (hh' : hi' ≤ w.heap.size) (hva : NodesZ w lo hi va f) (hvb : NodesZ w lo' hi' vb g) :
    Calls Try.prog 21 #[.agg #[va], .agg #[vb]] w fun e w' => e = .returned (.tuple #[.bool a, .bool ok]) ∧ Below w.heap.size w w' := by
  obtain ⟨aa, ca, rfl⟩ : ∃ ao c, va = .slice ao f.length c := by obtain ⟨ao, c, e, _⟩ := hva; exact ⟨ao, c, e⟩
  obtain ⟨ab, cb, rfl⟩ : ∃ ao c, vb = .slice ao g.length c := by obtain ⟨ao, c, e, _⟩ := hvb; exact ⟨ao, c, e⟩
  have hB1 : Below w.heap.size w (((w.alloc (.cells #[.slice aa f.length ca] 28)).alloc (.cells #[.slice ab g.length cb] 28)).alloc (.cells #[.slice aa f.length ca, .slice ab g.length cb] 28)) := (((Below.refl _ _).alloc (Nat.le_refl _) _).alloc (by simp) _).alloc (by simp; omega) _
  have hz1 : (((w.alloc (.cells #[.slice aa f.length ca] 28)).alloc (.cells #[.slice ab g.length cb] 28)).alloc (.cells #[.slice aa f.length ca, .slice ab g.length cb] 28)).heap.size = w.heap.size + 3 := by simp
  have c0 : (((w.alloc (.cells #[.slice aa f.length ca] 28)).alloc (.cells #[.slice ab g.length cb] 28)).alloc (.cells #[.slice aa f.length ca, .slice ab g.length cb] 28)).cell? ⟨w.heap.size + 1 + 1, 0, none⟩ = some (.slice aa f.length ca) := by go_simp
  have c1 : (((w.alloc (.cells #[.slice aa f.length ca] 28)).alloc (.cells #[.slice ab g.length cb] 28)).alloc (.cells #[.slice aa f.length ca, .slice ab g.length cb] 28)).cell? ⟨w.heap.size + 1 + 1, 1, none⟩ = some (.slice ab g.length cb) := by go_simp
  have hF := formsZ_pair (lo := 0) (hi := w.heap.size + 3) c0 c1 ((hva.below hB1 hh).wide (Nat.zero_le _) (by omega)) ((hvb.below hB1 hh').wide (Nat.zero_le _) (by omega)) (Nat.zero_le _) (by omega)
  have CS := Lib.hid (stacked_calls (.slice none 0 0) [] [] (fun _ => False) _ [f, g] ok (Lib.hid (by simpa using hok.out)) _ (w.heap.size + 3) 0 (w.heap.size + 3) (by rw [hz1]; exact Nat.le_refl _) (PileZ.nil _ _ _) hF (Nat.le_refl _) (by simp) (by simp))
  have HB1 := Lib.hid hB1
  have HZ1 := Lib.hid hz1
  clear hva hvb hB1 hz1 c0 c1 hF
  go_enter Try.func21, Try.ntmps21
  go_wp2_with fail
  refine CS.out.mono ?_
  rintro e w4 ⟨ho, pa, pn, pc, ta, tn, tc, rfl, hgood⟩
  have HB4 : Hid (Below w.heap.size w w4) := Lib.hid (HB1.out.trans (ho.below (base := w.heap.size) (by rw [HZ1.out]; omega) (fun g h => by simp [Value.ownBlock] at h)))
  clear CS ho HB1
  cases ok with
  | false =>
    obtain rfl : a = false := by rw [← ha.out]; unfold lessV; rw [hok.out]; rfl
    clear hgood hok ha HZ1
    go_wp2_with fail
    exact bodyPost_ret (v := .tuple #[.bool false, .bool false]) (by simp [results, Try.results21, go_sem]) rfl ⟨rfl, HB4.out⟩
  | true =>
    obtain ⟨hpn, htn, ⟨vs, hp⟩, hoT, _⟩ := hgood rfl
    have hgg := hok.out
    rw [Bool.and_eq_true] at hgg
    obtain ⟨hg1, hg2⟩ := hgg
    have fA := good_fit hg1
    have fB := good_fit hg2
    have oA := good_ord hg1
    have oB := good_ord hg2
    obtain ⟨A, hA⟩ : ∃ A, f.map downN = A := ⟨_, rfl⟩
    obtain ⟨B, hBB⟩ : ∃ B, g.map downN = B := ⟨_, rfl⟩
    rw [hA] at fA oA
    rw [hBB] at fB oB
    have hav : lessD A B = a := by rw [← ha.out]; unfold lessV; rw [hok.out, hA, hBB]; rfl
    have hmap : [f, g].map (fun f => f.map downN) = [A, B] := by simp [hA, hBB]
    rw [hmap, stk_two] at hpn hp hoT
    have hl : (A ++ shD A.length B).length = A.length + B.length := by rw [List.length_append, shD_len]
    obtain rfl : tn = 2 := by rw [htn]; rfl
    have hpl : pn = A.length + B.length := hpn.trans hl
    have hpA := fA.pos
    have hpB := fB.pos
    have hmA := fA.most
    have hmB := fB.most
    have hu := two_under fA.under fB.under
    have hsm : ∀ nd ∈ A ++ shD A.length B, nd.1.length ≤ 1000 ∧ nd.2.length ≤ 1000 := fun nd hnd => by
      rcases List.mem_append.1 hnd with hnd | hnd
      · have := fA.small nd hnd; omega
      · unfold shD at hnd
        obtain ⟨y, hy, rfl⟩ := List.mem_map.1 hnd
        have := fB.small y hy
        simp
        omega
    have C2 := Lib.hid (inOrder_calls (.slice pa pn pc) (A ++ shD A.length B) w4 0 w4.heap.size (Nat.le_refl _) hp.nodesZ hu (by rw [hl]; omega) hsm)
    have HLS := Lib.hid fun (out : List Nd) (pl : Nat → Nat) (hc : Canon (A ++ shD A.length B) (bOf (A ++ shD A.length B)) (fun _ => True) out pl) => (less_is fA fB oA oB hc).symm.trans hav
    obtain ⟨gt, rfl, t0, t1⟩ := own_two hoT
    have HL := Lib.hid hl
    have hbs := HB4.out.size
    clear hgood hpn htn hp hoT hok ha hg1 hg2 fA fB oA oB hA hBB hav hmap hu hsm hl hpl HZ1
    go_wp2_with fail
    refine C2.out.mono ?_
    rintro e w5 ⟨ao, co, vs5, gp, out, Q, rfl, _, hoQ, hcan, hb5⟩
    have t0' := (bcell hb5 _ _ (block_of_cell t0)).trans t0
    have t1' := (bcell hb5 _ _ (block_of_cell t1)).trans t1
    have HLT := Lib.hid (HLS.out _ _ hcan)
    obtain ⟨hQ0, hQc⟩ := own_at hoQ
    have hQl : Q.length = A.length + B.length := by rw [← hQ0]; exact HL.out
    obtain ⟨x, hx⟩ := lt_get (l := Q) (i := A.length - 1) (by omega)
    obtain ⟨y, hy⟩ := lt_get (l := Q) (i := A.length + B.length - 1) (by omega)
    have cx := hQc _ _ hx
    have cy := hQc _ _ hy
    have hres : Hid (decide (x < y) = a) := Lib.hid (by
      rw [← HLT.out]
      have e1 : Q.getD (A.length - 1) 0 = x := by rw [List.getD_eq_getElem?_getD, hx]; rfl
      have e2 : Q.getD (A.length + B.length - 1) 0 = y := by rw [List.getD_eq_getElem?_getD, hy]; rfl
      rw [e1, e2])
    have HB5 := Lib.hid (HB4.out.trans (hb5.mono hbs))
    have b0 : (0 : Int) ≤ ((A.length - 1 : Nat) : Int) := by omega
    have b1 : ((A.length - 1 : Nat) : Int) < ((A ++ shD A.length B).length : Nat) := by rw [HL.out]; omega
    have b2 : (0 : Int) ≤ ((A.length + B.length - 1 : Nat) : Int) := by omega
    have b3 : ((A.length + B.length - 1 : Nat) : Int) < ((A ++ shD A.length B).length : Nat) := by rw [HL.out]; omega
    obtain ⟨n, hn⟩ : ∃ n, (A ++ shD A.length B).length = n := ⟨_, rfl⟩
    rw [hn] at b1 b3 ⊢
    clear C2 hoQ hcan hb5 HLT hQl hQ0 hQc hx hy HL HLS hn t0 t1 HB4 hbs
    go_wp2
    go_quiet (fail)
    rw [hres.out]
    have HBE := Lib.hid fun n => HB5.out.trans ((below_drewN (Below.refl w5.heap.size w5) n).mono HB5.out.size)
    go_wp2_with fail
    exact bodyPost_ret (v := .tuple #[.bool a, .bool true]) (by simp [results, Try.results21, go_sem]) rfl ⟨rfl, HBE.out _⟩
end

end Go.Proofs.Ytabfdaofikccmaa
