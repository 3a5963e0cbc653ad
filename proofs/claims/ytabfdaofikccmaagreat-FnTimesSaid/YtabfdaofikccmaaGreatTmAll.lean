/- Stars and ups: mathematics. -/
import Derived.Test.YtabfdaofikccmaaGreatSmM
import Derived.Test.YtabfdaofikccmaaGreatDrAll
import Derived.Test.YtabfdaofikccmaaGreatFmToOwn
import Derived.Test.YtabfdaofikccmaaGreatFmPartL
import Derived.Test.YtabfdaofikccmaaGreatMyAll
import Derived.Test.YtabfdaofikccmaaGreatSpAll
import Derived.Test.YtabfdaofikccmaaGreatSqAll
import Derived.Deep.RegionHeld3
import Derived.Test.YtabfdaofikccmaaGreatInAll
import Derived.Deep.CutBlock
namespace Go.Proofs.YtabfdaofikccmaaGreat
section
set_option linter.unusedVariables false
set_option linter.unusedSimpArgs false

/-- the first nodes of a star -/
def starT (k : Nat) : List Nd := (List.range k).map fun j => (List.range j, List.range j)
theorem starT_len (k : Nat) : (starT k).length = k := by simp [starT]
theorem starT_succ (k : Nat) : starT (k + 1) = starT k ++ [(List.range k, List.range k)] := by simp [starT, List.range_succ]
theorem starT_at {k j : Nat} (h : j < k) : (starT k)[j]? = some (List.range j, List.range j) := by unfold starT; rw [List.getElem?_map, List.getElem?_range h]; rfl

/-- nodes of which each is born on the day of its number -/
def Line (P : List Nd) : Prop := ∀ (k : Nat) (nd : Nd), P[k]? = some nd → lastOf (fun x => x) nd = k

theorem line_born {P : List Nd} (h : Line P) (hu : Under P) : ∀ k, k < P.length → bOf P k = k := by
  have hb := births_bOf P hu
  intro k
  induction k using Nat.strongRecOn with
  | ind k ih =>
    intro hk
    obtain ⟨nd, hnd⟩ := lt_get hk
    rw [hb k nd hnd, lastOf_congr (bOf P) (fun x => x) nd (fun x hx => by
      have := hu k nd hnd x hx
      exact ih x this (by omega))]
    exact h k nd hnd

theorem line_rising {P : List Nd} (h : Line P) (hu : Under P) : RisingBy P (bOf P) := fun k x y hx hy => by
  left
  have h1 := get_lt hy
  rw [line_born h hu k (by omega), line_born h hu (k + 1) h1]
  omega

theorem line_snoc {P : List Nd} {nd : Nd} (h : Line P) (hn : lastOf (fun x => x) nd = P.length) : Line (P ++ [nd]) := fun k x hk => by
  rcases Nat.lt_or_ge k P.length with hlt | hge
  · rw [List.getElem?_append_left hlt] at hk
    exact h k x hk
  · rw [List.getElem?_append_right hge] at hk
    have h0 := get_lt hk
    simp at h0
    rw [show k - P.length = 0 from by omega] at hk
    simp only [List.getElem?_cons_zero, Option.some.injEq] at hk
    subst hk
    rw [hn]
    omega

theorem struct_snoc {P : List Nd} {nd : Nd} (h : Struct P) (h1 : nd.1.Pairwise (· < ·)) (h2 : nd.2.Pairwise (· < ·)) (h3 : ∀ x, x ∈ nd.1 ∨ x ∈ nd.2 → x < P.length) : Struct (P ++ [nd]) := fun k x hk => by
  rcases Nat.lt_or_ge k P.length with hlt | hge
  · rw [List.getElem?_append_left hlt] at hk
    exact h k x hk
  · rw [List.getElem?_append_right hge] at hk
    have h0 := get_lt hk
    simp at h0
    rw [show k - P.length = 0 from by omega] at hk
    simp only [List.getElem?_cons_zero, Option.some.injEq] at hk
    subst hk
    exact ⟨h1, h2, fun x hx => by have := h3 x hx; omega⟩

theorem used_snoc {P : List Nd} {nd : Nd} (h : Used P) (hn : 0 < P.length → P.length - 1 ∈ nd.1 ∨ P.length - 1 ∈ nd.2) : Used (P ++ [nd]) := fun i hi => by
  rw [List.length_append, List.length_singleton] at hi
  rcases Nat.lt_or_ge (i + 1) P.length with hlt | hge
  · obtain ⟨k, x, hk, hx⟩ := h i hlt
    exact ⟨k, x, by rw [List.getElem?_append_left (get_lt hk)]; exact hk, hx⟩
  · refine ⟨P.length, nd, by simp, ?_⟩
    rw [show i = P.length - 1 from by omega]
    exact hn (by omega)

/-- what is asked of nodes that are a good form, each born on its own day -/
structure LineF (P : List Nd) : Prop where
  line : Line P
  struct : Struct P
  used : Used P
  small : ∀ nd ∈ P, nd.1.length ≤ 24 ∧ nd.2.length ≤ 24
  first : P[0]? = some ([], [])

theorem LineF.pos {P : List Nd} (h : LineF P) : 0 < P.length := get_lt h.first

theorem LineF.snoc {P : List Nd} {nd : Nd} (h : LineF P) (hl : lastOf (fun x => x) nd = P.length) (h1 : nd.1.Pairwise (· < ·)) (h2 : nd.2.Pairwise (· < ·)) (h3 : ∀ x, x ∈ nd.1 ∨ x ∈ nd.2 → x < P.length) (h4 : P.length - 1 ∈ nd.1 ∨ P.length - 1 ∈ nd.2) (h5 : nd.1.length ≤ 24 ∧ nd.2.length ≤ 24) : LineF (P ++ [nd]) :=
  ⟨line_snoc h.line hl, struct_snoc h.struct h1 h2 h3, used_snoc h.used (fun _ => h4), fun x hx => by
    rcases List.mem_append.1 hx with hx | hx
    · exact h.small x hx
    · rw [List.mem_singleton] at hx; subst hx; exact h5, by rw [List.getElem?_append_left h.pos]; exact h.first⟩

theorem last_range (k : Nat) : lastOf (fun x => x) (List.range k, List.range k) = k := by
  refine Nat.le_antisymm (lastOf_le _ _ _ (fun x hx => by simpa using hx)) ?_
  cases k with
  | zero => exact Nat.zero_le _
  | succ k => exact lastOf_lt (fun x => x) (List.range (k + 1), List.range (k + 1)) k (Or.inl (List.mem_range.2 (Nat.lt_succ_self k)))

theorem range_asc (k : Nat) : (List.range k).Pairwise (· < ·) := List.pairwise_lt_range

theorem starT_good (k : Nat) (hk : k ≤ 24) : LineF (starT (k + 1)) := by
  induction k with
  | zero =>
    refine ⟨fun k nd hk => ?_, fun k nd hk => ?_, fun i hi => by rw [starT_len] at hi; omega, fun nd hnd => ?_, rfl⟩
    · have h0 := get_lt hk
      rw [starT_len] at h0
      rw [starT_at h0] at hk
      injection hk with hk
      subst hk
      exact last_range k
    · have h0 := get_lt hk
      rw [starT_len] at h0
      rw [starT_at h0] at hk
      injection hk with hk
      subst hk
      exact ⟨range_asc k, range_asc k, fun x hx => by simpa using hx⟩
    · simp [starT] at hnd
      subst hnd
      exact ⟨Nat.zero_le _, Nat.zero_le _⟩
  | succ k ih =>
    rw [starT_succ (k + 1)]
    have hl := starT_len (k + 1)
    refine (ih (by omega)).snoc (by rw [last_range, hl]) (range_asc _) (range_asc _) (fun x hx => by rw [hl]; simpa using hx) (Or.inl (by rw [hl]; simp)) ?_
    simp
    omega

/-- the nodes of ups and a star -/
def upD : Nat → Nat → List Nd
  | 0, s => starT (s + 1)
  | u + 1, s => if u = 0 ∧ s = 1 then starT 2 ++ [([0, 1], [0])] else upD u (s ^^^ 1) ++ [([0], [(upD u (s ^^^ 1)).length - 1])]

theorem upD_zero (s : Nat) : upD 0 s = starT (s + 1) := rfl
theorem upD_one : upD 1 1 = starT 2 ++ [([0, 1], [0])] := rfl
theorem upD_step (u s : Nat) (h : ¬ (u = 0 ∧ s = 1)) : upD (u + 1) s = upD u (s ^^^ 1) ++ [([0], [(upD u (s ^^^ 1)).length - 1])] := by
  rw [upD, if_neg h]

theorem xor_small {s : Nat} (h : s ≤ 15) : s ^^^ 1 ≤ 15 := by
  have := Nat.xor_lt_two_pow (n := 4) (x := s) (y := 1) (by omega) (by omega)
  omega

theorem last_up (m : Nat) (h : 0 < m) : lastOf (fun x => x) ([0], [m - 1]) = m := by
  unfold lastOf
  simp
  omega

theorem upD_good (u s : Nat) (hu : u ≤ 12) (hs : s ≤ 15) : LineF (upD u s) ∧ (upD u s).length ≤ u + 16 := by
  induction u generalizing s with
  | zero => exact ⟨starT_good s (by omega), by rw [upD_zero, starT_len]; omega⟩
  | succ u ih =>
    by_cases h : u = 0 ∧ s = 1
    · obtain ⟨rfl, rfl⟩ := h
      rw [upD_one]
      refine ⟨(starT_good 1 (by omega)).snoc (by decide) (by decide) (by decide) (fun x hx => by simp [starT_len] at hx ⊢; omega) (by rw [starT_len]; simp) (by decide), by simp [starT_len]⟩
    · rw [upD_step u s h]
      obtain ⟨h1, h2⟩ := ih (s ^^^ 1) (by omega) (xor_small hs)
      have hp := h1.pos
      refine ⟨h1.snoc (last_up _ hp) (by simp) (by simp) (fun x hx => ?_) (Or.inr (by simp)) (by simp), by simp; omega⟩
      simp at hx
      omega

theorem upD_starts (u s : Nat) (hu : u ≤ 12) (hs : s ≤ 15) : ∃ m, (upD u s).length = m + 1 := ⟨(upD u s).length - 1, by have := (upD_good u s hu hs).1.pos; omega⟩

/-- nodes that each fall to a node of nodes in order -/
theorem canon_via {P out : List Nd} {pl : Nat → Nat} (hu : Under P) (hs : Struct out) (hr : RisingBy out (bOf out)) (hn : ∀ (k : Nat) (nd : Nd), P[k]? = some nd → out[pl k]? = some (movd pl nd)) (hsur : ∀ i, i < out.length → ∃ k, k < P.length ∧ pl k = i) : Canon P (bOf P) (fun _ => True) out pl := by
  have hbP := births_bOf P hu
  have hbo := births_bOf out hs.under
  have hb : ∀ k, k < P.length → bOf out (pl k) = bOf P k := by
    intro k
    induction k using Nat.strongRecOn with
    | ind k ih =>
      intro hk
      obtain ⟨nd, hnd⟩ := lt_get hk
      rw [hbP k nd hnd, hbo (pl k) _ (hn k nd hnd)]
      exact lastOf_map (bOf P) (bOf out) pl nd (fun x hx => by
        have := hu k nd hnd x hx
        exact ih x this (by omega))
  have hp : ∀ k, k < P.length → pl k < out.length := fun k hk => by
    obtain ⟨nd, hnd⟩ := lt_get hk
    exact get_lt (hn k nd hnd)
  have hc := canon_of_rising hs hbo hr.rising
  refine ⟨fun k nd hk _ => hn k nd hk, fun i hi => ?_, fun k j hk hj _ _ h => ?_, fun k j x y hk hj _ _ h hx hy hl => ?_, fun k j hk hj _ _ h => ?_⟩
  · obtain ⟨k, h1, h2⟩ := hsur i hi
    exact ⟨k, h1, trivial, h2⟩
  · exact hc.born (pl k) (pl j) (hp k hk) (hp j hj) trivial trivial (by rw [hb k hk, hb j hj]; exact h)
  · exact hc.ahead (pl k) (pl j) x y (hp k hk) (hp j hj) trivial trivial (by rw [hb k hk, hb j hj]; exact h) hx hy hl
  · exact hc.once (pl k) (pl j) (hp k hk) (hp j hj) trivial trivial h

theorem LineF.rising {P : List Nd} (h : LineF P) : RisingBy P (bOf P) := line_rising h.line h.struct.under

theorem LineF.fit {P : List Nd} (h : LineF P) (hl : P.length ≤ 125) : Fit P := ⟨h.pos, hl, h.struct.under, h.used, h.small⟩

theorem LineF.goodB {P : List Nd} (h : LineF P) (hl : P.length ≤ 120) : goodB (P.map upN) = true := by
  refine (goodB_iff _).2 ⟨⟨by simpa using h.pos, by simpa using hl, fun nd hnd => ?_⟩, structZ_up h.struct, ?_, ?_⟩
  · obtain ⟨x, hx, rfl⟩ := List.mem_map.1 hnd
    have := h.small x hx
    simpa [upN, upL] using this
  · rw [down_up]; exact h.rising
  · rw [down_up]; exact h.used

def zeroD : List Nd := [([], [])]
theorem zeroD_star : zeroD = starT 1 := rfl
theorem zero_fit : Fit zeroD := (starT_good 0 (by omega)).fit (by decide)

/-- the model's up on a game -/
theorem up_make {f : List Nd} (h : LineF f) (hl : f.length ≤ 100) : formM (mkD [zeroD] [f]) = f ++ [([0], [f.length - 1])] := by
  have hp := h.pos
  have hg : LineF (f ++ [([0], [f.length - 1])]) := h.snoc (last_up _ hp) (by simp) (by simp) (fun x hx => by simp at hx; omega) (Or.inr (by simp)) (by simp)
  have e : mkD [zeroD] [f] = [([], [])] ++ shD 1 f ++ [([0], [f.length])] := by
    have e1 : stkL [] [zeroD] = ([([], [])], [0]) := by simp [stkL, stk, zeroD, shD]
    unfold mkD
    rw [e1]
    have e2 : stkL [([], [])] [f] = ([([], [])] ++ shD 1 f, [1 + f.length - 1]) := by simp [stkL, stk]
    rw [e2]
    dsimp only
    rw [show 1 + f.length - 1 = f.length from by omega]
  have hfz : ∀ g ∈ [zeroD], Fit g := fun g hg => by simp at hg; subst hg; exact zero_fit
  have hff : ∀ g ∈ [f], Fit g := fun g hg => by simp at hg; subst hg; exact h.fit (by omega)
  have hu := mkD_under hfz hff
  have hlen : (mkD [zeroD] [f]).length = f.length + 2 := by rw [e]; simp only [List.length_append, shD_len, List.length_singleton]; omega
  refine (order_is hu (by omega) (mkD_reach hfz hff) (canon_via (pl := fun k => k - 1) hu hg.struct hg.rising (fun k nd hk => ?_) (fun i hi => ?_))).symm
  · rw [e] at hk
    rcases Nat.lt_or_ge k (f.length + 1) with hlt | hge
    · rw [List.getElem?_append_left (by simp [shD_len]; omega)] at hk
      cases k with
      | zero =>
        simp at hk
        subst hk
        rw [List.getElem?_append_left (by simpa using hp)]
        exact h.first
      | succ k =>
        simp at hk
        obtain ⟨x, hx, rfl⟩ := shD_get hk
        rw [show k + 1 - 1 = k from by omega, List.getElem?_append_left (get_lt hx), hx]
        have hid := movd_id h.struct hx
        unfold movd at hid ⊢
        simp only [List.map_map, Function.comp_def, Nat.add_sub_cancel]
        rw [← hid]
        simp only [List.map_id']
        rw [sortd_id _ (sortd_asc _), sortd_id _ (sortd_asc _)]
    · rw [List.getElem?_append_right (by simp [shD_len]; omega)] at hk
      have h0 := get_lt hk
      simp [shD_len] at h0
      have hk0 : k = f.length + 1 := by omega
      subst hk0
      simp [shD_len] at hk
      subst hk
      rw [show f.length + 1 - 1 = f.length from by omega]
      simp [movd, sortd, putN]
  · refine ⟨i + 1, ?_, by omega⟩
    rw [hlen]
    simp at hi
    omega

theorem up_star : formM (mkD [zeroD, starT 2] [zeroD]) = starT 2 ++ [([0, 1], [0])] := by decide

theorem up_next (u s : Nat) (hu : u + 1 ≤ 12) (hs : s ≤ 15) (h : ¬ (u = 0 ∧ s = 1)) : formM (mkD [zeroD] [upD u (s ^^^ 1)]) = upD (u + 1) s := by
  obtain ⟨h1, h2⟩ := upD_good u (s ^^^ 1) (by omega) (xor_small hs)
  rw [up_make h1 (by omega), upD_step u s h]
end

section
open Go.RowKit
set_option linter.unusedVariables false
set_option linter.unusedSimpArgs false

def NilPost (w : World) (e : Ending) (w' : World) : Prop := ∃ g vs, e = .returned (.agg #[.slice (some ⟨g, 0, none⟩) 1 1]) ∧ OwnF w' w.heap.size (.slice (some ⟨g, 0, none⟩) 1 1) vs [([], [])] ∧ Below w.heap.size w w'

set_option maxRecDepth 100000 in
theorem nothing_own (w : World) : Calls Tryz.prog 62 #[] w (NilPost w) := by
  obtain ⟨i0, hi0, hz0, hz1, hz2⟩ := info_parts infoNodeA
  have hb0 : Below w.heap.size w (w.alloc (.cells #[.slice none 0 0] 26)) := (Below.refl _ _).alloc (Nat.le_refl _) _
  have hx0 : BoxAt (w.alloc (.cells #[.slice none 0 0] 26)) w.heap.size (.slice none 0 0) := ⟨by go_simp, by go_simp⟩
  have hz : (w.alloc (.cells #[.slice none 0 0] 26)).heap.size = w.heap.size + 1 := by simp
  have HB0 := Lib.hid hb0
  have HX0 := Lib.hid hx0
  have HZ := Lib.hid hz
  clear hb0 hx0 hz
  go_enter Tryz.func62, Tryz.ntmps62
  go_wp2_with (at_make; refine wpList_make_full _ rfl _ _ 24 rfl (w.heap.size + 1) 67 i0 (.agg #[.slice none 0 0, .slice none 0 0]) 2 Tryz.underlying24 hi0 hz0 hz1 _ _ _ _ 1 rfl rfl (by first | rfl | (simp; done)) (by first | rfl | (simp; done)) (by rw [hz2]; omega) (by unfold maxLen; omega) (by simp) ?_; intro w1 hown hg; have hbg : Below _ _ w1 := (Below.refl _ _).grown hg (Nat.le_refl _) (fun k hk => by cases hk); obtain ⟨d1, z1⟩ := HX0.out.below hbg)
  rw [HZ.out] at hown
  have HB := Lib.hid ((HB0.out.trans (hbg.mono HB0.out.size)).setCell (p := ⟨w.heap.size, 0, none⟩) (Nat.le_refl _) (.slice (some ⟨w.heap.size + 1, 0, none⟩) 1 1))
  have HO := Lib.hid (((ownF_made hown).setCell (p := ⟨w.heap.size, 0, none⟩) (u := .slice (some ⟨w.heap.size + 1, 0, none⟩) 1 1) (by show w.heap.size < w.heap.size + 1; omega)).mono (base' := w.heap.size) (by omega))
  have hcr := World.cell?_setCell_same w1 ⟨w.heap.size, 0, none⟩ (.slice (some ⟨w.heap.size + 1, 0, none⟩) 1 1) d1
  clear hown hg hbg
  go_wp2_with fail
  exact bodyPost_ret (v := .agg #[.slice (some ⟨w.heap.size + 1, 0, none⟩) 1 1]) (by simp [results, Tryz.results62, go_sem, hcr]) rfl ⟨_, _, rfl, HO.out, HB.out⟩
end

section
set_option linter.unusedVariables false
set_option linter.unusedSimpArgs false
open Go.RowKit

theorem below_viaZ {a W b : World} (h : Below a.heap.size a W) (g : Below W.heap.size W b) : Below a.heap.size a b := h.trans (g.mono h.size)

theorem formsZ_one {w : World} {B : Nat} {v : Value} {f : List Nz} {lo hi : Nat} (hc : w.cell? ⟨B, 0, none⟩ = some v) (hn : NodesZ w lo hi v f) (h1 : lo ≤ B) (h2 : B < hi) : FormsZ w lo hi (.slice (some ⟨B, 0, none⟩) 1 1) [f] :=
  ⟨_, 1, rfl, ⟨Nat.le_refl _, by simp⟩, fun j g hj => by
    have h0 := get_lt hj
    simp at h0
    subst h0
    simp at hj
    subst hj
    exact ⟨B, 0, v, rfl, h1, h2, hc, hn⟩⟩
theorem formsZ_two {w : World} {B : Nat} {v1 v2 : Value} {f1 f2 : List Nz} {lo hi : Nat} (hc1 : w.cell? ⟨B, 0, none⟩ = some v1) (hc2 : w.cell? ⟨B, 1, none⟩ = some v2) (hn1 : NodesZ w lo hi v1 f1) (hn2 : NodesZ w lo hi v2 f2) (h1 : lo ≤ B) (h2 : B < hi) : FormsZ w lo hi (.slice (some ⟨B, 0, none⟩) 2 2) [f1, f2] :=
  ⟨_, 2, rfl, ⟨Nat.le_refl _, by simp⟩, fun j g hj => by
    have h0 := get_lt hj
    simp at h0
    rcases (show j = 0 ∨ j = 1 by omega) with rfl | rfl
    · simp at hj
      subst hj
      exact ⟨B, 0, v1, rfl, h1, h2, hc1, hn1⟩
    · simp at hj
      subst hj
      exact ⟨B, 0, v2, rfl, h1, h2, hc2, hn2⟩⟩

def FormPost (w : World) (f : List Nz) (e : Ending) (w' : World) : Prop := ∃ a c, e = .returned (.agg #[.slice a f.length c]) ∧ NodesZ w' w.heap.size w'.heap.size (.slice a f.length c) f ∧ Below w.heap.size w w'

theorem zeroS_calls (w : World) : Calls Tryz.prog 130 #[] w (FormPost w (zeroD.map upN)) := by
  go_enter Tryz.func130, Tryz.ntmps130
  go_wp2_with fail
  have z1 : (w.alloc (.cells #[.slice (some ⟨w.heap.size + 1, 0, none⟩) 1 1] 26)).heap.size = w.heap.size + 1 := by simp
  have b1 : Below w.heap.size w (w.alloc (.cells #[.slice (some ⟨w.heap.size + 1, 0, none⟩) 1 1] 26)) := (Below.refl _ _).alloc (Nat.le_refl _) _
  have b2 : Below (w.alloc (.cells #[.slice (some ⟨w.heap.size + 1, 0, none⟩) 1 1] 26)).heap.size (w.alloc (.cells #[.slice (some ⟨w.heap.size + 1, 0, none⟩) 1 1] 26)) ((w.alloc (.cells #[.slice (some ⟨w.heap.size + 1, 0, none⟩) 1 1] 26)).alloc (.cells #[.slice none 0 0, .slice none 0 0] 67)) := (Below.refl _ _).alloc (Nat.le_refl _) _
  have hcr : ((w.alloc (.cells #[.slice (some ⟨w.heap.size + 1, 0, none⟩) 1 1] 26)).alloc (.cells #[.slice none 0 0, .slice none 0 0] 67)).cell? ⟨w.heap.size, 0, none⟩ = some (.slice (some ⟨w.heap.size + 1, 0, none⟩) 1 1) := (bcell b2 _ _ (by simp)).trans (by go_simp)
  have n1 : ((w.alloc (.cells #[.slice (some ⟨w.heap.size + 1, 0, none⟩) 1 1] 26)).alloc (.cells #[.slice none 0 0, .slice none 0 0] 67)).cell? ⟨w.heap.size + 1, 0, none⟩ = some (.slice none 0 0) := by rw [← z1]; go_simp
  have n2 : ((w.alloc (.cells #[.slice (some ⟨w.heap.size + 1, 0, none⟩) 1 1] 26)).alloc (.cells #[.slice none 0 0, .slice none 0 0] 67)).cell? ⟨w.heap.size + 1, 1, none⟩ = some (.slice none 0 0) := by rw [← z1]; go_simp
  have hz : ((w.alloc (.cells #[.slice (some ⟨w.heap.size + 1, 0, none⟩) 1 1] 26)).alloc (.cells #[.slice none 0 0, .slice none 0 0] 67)).heap.size = w.heap.size + 2 := by simp
  refine bodyPost_ret (v := .agg #[.slice (some ⟨w.heap.size + 1, 0, none⟩) 1 1]) (by simp [results, Tryz.results130, go_sem, hcr]) rfl ⟨some ⟨w.heap.size + 1, 0, none⟩, 1, rfl, ?_, below_viaZ b1 b2⟩
  refine ⟨_, 1, rfl, ⟨Nat.le_refl _, by simp⟩, fun j nd hj => ?_⟩
  have h0 := get_lt hj
  have h1 : (zeroD.map upN).length = 1 := rfl
  rw [h1] at h0
  obtain rfl : j = 0 := by omega
  have e : nd = ([], []) := by
    have h2 : (zeroD.map upN)[0]? = some ([], []) := rfl
    rw [h2] at hj
    injection hj with hj
    exact hj.symm
  subst e
  exact ⟨w.heap.size + 1, 0, .slice none 0 0, .slice none 0 0, rfl, by omega, by rw [hz]; omega, n1, n2, ⟨none, 0, rfl, by simp, fun j x hx => by simp at hx⟩, ⟨none, 0, rfl, by simp, fun j x hx => by simp at hx⟩⟩
end

section
set_option linter.unusedVariables false
set_option linter.unusedSimpArgs false
open Go.RowKit

theorem below_viaS {a W b : World} (h : Below a.heap.size a W) (g : Below W.heap.size W b) : Below a.heap.size a b := h.trans (g.mono h.size)

def SoPostI (w : World) (g : List Nz) (ok : Bool) (e : Ending) (w' : World) : Prop := ∃ a c vs, e = .returned (.tuple #[.agg #[.slice a g.length c], .bool ok]) ∧ OwnF w' w.heap.size (.slice a g.length c) vs g ∧ Below w.heap.size w w'
theorem soPostI_none {w w' : World} {e : Ending} (he : e = .returned (.tuple #[.agg #[.slice none 0 0], .bool false])) (hb : Below w.heap.size w w') : SoPostI w [] false e w' := ⟨none, 0, [], he, OwnF.nil _ _, hb⟩

set_option maxRecDepth 100000 in
set_option maxHeartbeats 4000000 in
theorem sumOfI_calls (v : Value) (Fs : List (List Nz)) (g : List Nz) (ok : Bool) (hok : Hid (soOk Fs = ok)) (hg : Hid (soV Fs = g)) (w : World) (lo hi : Nat) (hh : hi ≤ w.heap.size) (hv : FormsZ w lo hi v Fs) :
    Calls Tryz.prog 74 #[v] w (SoPostI w g ok) := by
  have HV := Lib.hid fun (W : World) (hW : Below w.heap.size w W) => hv.below hW hh
  obtain ⟨av, cv, rfl⟩ : ∃ a c, v = .slice a Fs.length c := by obtain ⟨a, c, e, _⟩ := hv; exact ⟨a, c, e⟩
  have hb0 : Below w.heap.size w (w.alloc (.cells #[.slice none 0 0] 26)) := (Below.refl _ _).alloc (Nat.le_refl _) _
  have hx0 : BoxAt (w.alloc (.cells #[.slice none 0 0] 26)) w.heap.size (.slice none 0 0) := ⟨by go_simp, by go_simp⟩
  have HB0 := Lib.hid hb0
  have HX0 := Lib.hid hx0
  by_cases hn : Fs.length ≤ 12
  case neg =>
    have hn2 : (12 : Int) < Fs.length := by omega
    obtain rfl : ok = false := by rw [← hok.out]; unfold soOk; rw [decide_eq_false hn]; rfl
    obtain rfl : g = [] := by rw [← hg.out, soV_no hok.out]
    clear hv HV hb0 hx0 HX0 hok hg
    go_enter Tryz.func74, Tryz.ntmps74
    go_wp2_with fail
    exact bodyPost_ret (v := .tuple #[.agg #[.slice none 0 0], .bool false]) (by simp [results, Tryz.results74, go_sem]) rfl (soPostI_none rfl HB0.out)
  have hn2 : ¬ (12 : Int) < Fs.length := by omega
  have C0 := Lib.hid (nothing_own (w.alloc (.cells #[.slice none 0 0] 26)))
  have HS2 : Hid (ok = (soF Fs).2) := Lib.hid (by rw [← hok.out]; unfold soOk; rw [decide_eq_true hn, Bool.true_and])
  have HS1 : Hid (g = if ok then (soF Fs).1 else []) := Lib.hid (by
    cases ho : ok with
    | false => rw [← hg.out, soV_no (by rw [hok.out, ho])]; rfl
    | true => rw [← hg.out, soV_yes (by rw [hok.out, ho])]; rfl)
  clear hv hb0 hx0 hok hg
  go_enter Tryz.func74, Tryz.ntmps74
  go_wp2_with fail
  refine C0.out.mono ?_
  rintro e w1 ⟨g0, vs0, rfl, hz0, hb1⟩
  have hL1 : Below w1.heap.size w1 (w1.alloc (.cells #[.slice (some ⟨g0, 0, none⟩) 1 1] 26)) := (Below.refl _ _).alloc (Nat.le_refl _) _
  have b1 := below_viaS hb1 hL1
  have HB1 := Lib.hid (below_viaS HB0.out b1)
  have HX1 := Lib.hid (HX0.out.below b1)
  have HS0 : Hid (BoxAt (w1.alloc (.cells #[.slice (some ⟨g0, 0, none⟩) 1 1] 26)) w1.heap.size (.slice (some ⟨g0, 0, none⟩) ((soF (Fs.take 0)).1).length 1)) := Lib.hid ⟨by rw [List.take_zero]; show World.cell? _ _ = some (.slice (some ⟨g0, 0, none⟩) 1 1); go_simp, by go_simp⟩
  have HO0 : Hid (OwnF (w1.alloc (.cells #[.slice (some ⟨g0, 0, none⟩) 1 1] 26)) (w.heap.size + 1) (.slice (some ⟨g0, 0, none⟩) ((soF (Fs.take 0)).1).length 1) vs0 ((soF (Fs.take 0)).1)) := Lib.hid (by rw [List.take_zero]; exact (hz0.below hL1).mono (by simp))
  have hz1 : w.heap.size < w1.heap.size := by have := hb1.size; simp at this; omega
  obtain ⟨B, hB⟩ : ∃ B, w1.heap.size = B := ⟨_, rfl⟩
  rw [hB] at HS0 hz1
  have HBE := Lib.hid hB
  clear hz0 hb1 hL1 b1 C0 HB0 HX0
  go_wp2
  go_loopw [16] (fun i wr => ∃ (k : Nat) (a : Option Addr) (c : Nat) (vs : List (Value × Value)), k ≤ Fs.length ∧ i = .int .i64 k ∧ Hid ((soF (Fs.take k)).2 = true) ∧ Hid (BoxAt wr B (.slice a ((soF (Fs.take k)).1).length c)) ∧ Hid (OwnF wr (w.heap.size + 1) (.slice a ((soF (Fs.take k)).1).length c) vs ((soF (Fs.take k)).1)) ∧
    Hid (BoxAt wr w.heap.size (.slice none 0 0)) ∧ Hid (Below w.heap.size w wr)) (fun i _ => Fs.length - (intOf i).toNat)
  case atStart => exact ⟨0, _, _, _, Nat.zero_le _, rfl, Lib.hid (by rw [List.take_zero]; rfl), HS0, HO0, HX1, HB1⟩
  case round =>
    obtain ⟨k, a, c, vs, hk, rfl, hyes, hbx, ho, hbr, hb⟩ := hrel
    clear HS0 HO0 HX1 HB1
    by_cases hlt : k < Fs.length
    · obtain ⟨f, hf⟩ := lt_get hlt
      obtain ⟨ao1, c1, e1, _, hnn⟩ := HV.out wr hb.out
      obtain ⟨b, off, vf, rfl, _, hbh, p1, i1⟩ := hnn k f hf
      obtain ⟨q1, q2, q3⟩ := slice_inj e1
      subst q1 q3
      clear q2 hnn e1
      obtain ⟨af, cf, hvf⟩ : ∃ a c, vf = .slice a f.length c := by obtain ⟨a, c, e, _⟩ := i1; exact ⟨a, c, e⟩
      subst hvf
      obtain ⟨r, hr⟩ : ∃ r, sumOk (soF (Fs.take k)).1 f = r := ⟨_, rfl⟩
      have HNX : Hid (r = true → soF (Fs.take (k + 1)) = (sumV (soF (Fs.take k)).1 f, true)) := Lib.hid (fun h => soF_yes hf hyes.out (by rw [hr]; exact h))
      have HNO : Hid (r = false → (soF Fs).2 = false) := Lib.hid (fun h => soF_no hf (by rw [hr]; exact h))
      obtain ⟨S, hS⟩ : ∃ S, (soF (Fs.take k)).1 = S := ⟨_, rfl⟩
      rw [hS] at hbx ho hr HNX
      obtain ⟨g2, hg2⟩ : ∃ g, sumV S f = g := ⟨_, rfl⟩
      rw [hg2] at HNX
      have hbs := hb.out.size
      have hBl := block_of_cell hbx.out.1
      have hal : Below wr.heap.size wr (wr.alloc (.cells #[.slice af f.length cf] 26)) := (Below.refl _ _).alloc (Nat.le_refl _) _
      have ka : (wr.alloc (.cells #[.slice af f.length cf] 26)).cell? ⟨B, 0, none⟩ = some (.slice a S.length c) := (bcell hal _ _ hBl).trans hbx.out.1
      have kb : (wr.alloc (.cells #[.slice af f.length cf] 26)).cell? ⟨wr.heap.size, 0, none⟩ = some (.slice af f.length cf) := by go_simp
      have hza : wr.heap.size < (wr.alloc (.cells #[.slice af f.length cf] 26)).heap.size := by simp
      have C := Lib.hid (sumI_calls (.slice a S.length c) (.slice af f.length cf) S f g2 r (Lib.hid hr) (Lib.hid hg2) (wr.alloc (.cells #[.slice af f.length cf] 26)) (w.heap.size + 1) _ lo hi (Nat.le_refl _) (by omega) (ho.out.below hal).nodesZ (i1.below hal (by omega)))
      have HAL := Lib.hid hal
      have k0 : (0 : Int) ≤ k := by omega
      have k1 : (k : Int) < Fs.length := by omega
      clear hf i1 hr hS hg2 hal
      go_wp2_with fail
      refine C.out.mono ?_
      rintro e w2 ⟨a2, c2, vs2, rfl, ho2, hb2⟩
      have hLn : Below w2.heap.size w2 (w2.alloc (.cells #[.slice a2 g2.length c2] 26)) := (Below.refl _ _).alloc (Nat.le_refl _) _
      have b2 := below_viaS (below_viaS HAL.out hb2) hLn
      have HB2 := Lib.hid (below_viaS hb.out b2)
      have HX2 := Lib.hid (hbr.out.below b2)
      obtain ⟨dB, zB⟩ := hbx.out.below b2
      have kn : (w2.alloc (.cells #[.slice a2 g2.length c2] 26)).cell? ⟨w2.heap.size, 0, none⟩ = some (.slice a2 g2.length c2) := by go_simp
      have HO2 := Lib.hid (ho2.below hLn)
      have s2 := hb2.size
      clear ho2 hb2 hLn b2 C HAL ka kb hbx ho hbr hb p1
      cases r with
      | false =>
        obtain rfl : ok = false := by rw [HS2.out]; exact HNO.out rfl
        obtain rfl : g = [] := by rw [HS1.out]; rfl
        obtain ⟨d1, z1⟩ := HX2.out
        have B4 := Lib.hid (HB2.out.setCell (p := ⟨w.heap.size, 0, none⟩) (Nat.le_refl _) (.slice none 0 0))
        have hcr := World.cell?_setCell_same (w2.alloc (.cells #[.slice a2 g2.length c2] 26)) ⟨w.heap.size, 0, none⟩ (.slice none 0 0) d1
        clear hyes HNX HNO
        go_wp2_with fail
        exact bodyPost_ret (v := .tuple #[.agg #[.slice none 0 0], .bool false]) (by simp [results, Tryz.results74, go_sem, hcr]) rfl (soPostI_none rfl B4.out)
      | true =>
        have hnx := HNX.out rfl
        have HY : Hid ((soF (Fs.take (k + 1))).2 = true) := Lib.hid (by rw [hnx])
        have HE : Hid ((soF (Fs.take (k + 1))).1 = g2) := Lib.hid (by rw [hnx])
        have O7 : Only (w2.alloc (.cells #[.slice a2 g2.length c2] 26)) ((w2.alloc (.cells #[.slice a2 g2.length c2] 26)).setCell ⟨B, 0, none⟩ (.slice a2 g2.length c2)) (fun b => b = B) := Only.of_set (F := fun b => b = B) (p := ⟨B, 0, none⟩) _ rfl
        have R1 : Hid (BoxAt ((w2.alloc (.cells #[.slice a2 g2.length c2] 26)).setCell ⟨B, 0, none⟩ (.slice a2 g2.length c2)) B (.slice a2 ((soF (Fs.take (k + 1))).1).length c2)) := Lib.hid (by rw [HE.out]; exact ⟨World.cell?_setCell_same _ _ _ dB, by rw [World.frozen?_setCell]; exact zB⟩)
        have R2 : Hid (OwnF ((w2.alloc (.cells #[.slice a2 g2.length c2] 26)).setCell ⟨B, 0, none⟩ (.slice a2 g2.length c2)) (w.heap.size + 1) (.slice a2 ((soF (Fs.take (k + 1))).1).length c2) vs2 ((soF (Fs.take (k + 1))).1)) := Lib.hid (by rw [HE.out]; exact (HO2.out.setCell (by show B < _; omega)).mono (by omega))
        have R3 := Lib.hid (HX2.out.only O7 (by omega))
        have R4 := Lib.hid (HB2.out.setCell (p := ⟨B, 0, none⟩) (by show w.heap.size ≤ B; omega) (.slice a2 g2.length c2))
        clear hnx HNX HNO HO2 HX2 HB2 O7 hyes
        go_wp2_with fail
        go_roundw
        case rel => exact ⟨k + 1, a2, c2, vs2, by omega, by go_num, HY, R1, R2, R3, R4⟩
        case measure => first | (simp [intOf]; done) | (simp [intOf]; omega)
    · have hke : k = Fs.length := by omega
      subst hke
      rw [List.take_length] at hyes hbx ho
      obtain rfl : ok = true := by rw [HS2.out]; exact hyes.out
      have hgS : g = (soF Fs).1 := HS1.out
      rw [← hgS] at hbx ho
      obtain ⟨d1, z1⟩ := hbr.out
      have hlt1 := block_of_cell d1
      have kB := hbx.out.1
      have HO3 : Hid (OwnF (wr.setCell ⟨w.heap.size, 0, none⟩ (.slice a g.length c)) w.heap.size (.slice a g.length c) vs g) := Lib.hid ((ho.out.setCell (by show w.heap.size < w.heap.size + 1; omega)).mono (by omega))
      have HB3 := Lib.hid (hb.out.setCell (p := ⟨w.heap.size, 0, none⟩) (Nat.le_refl _) (.slice a g.length c))
      have hcr := World.cell?_setCell_same wr ⟨w.heap.size, 0, none⟩ (.slice a g.length c) d1
      clear hyes hbx ho hbr hb hgS
      go_wp2_with fail
      exact bodyPost_ret (v := .tuple #[.agg #[.slice a g.length c], .bool true]) (by simp [results, Tryz.results74, go_sem, hcr]) rfl ⟨a, c, vs, rfl, HO3.out, HB3.out⟩
end

section
set_option linter.unusedVariables false
set_option linter.unusedSimpArgs false
open Go.RowKit

theorem all_take_snoc {Fs : List (List Nz)} {k : Nat} {f : List Nz} (h : ∀ g ∈ Fs.take k, goodB g = true) (hf : Fs[k]? = some f) (hg : goodB f = true) : ∀ g ∈ Fs.take (k + 1), goodB g = true := fun g hm => by
  rw [List.take_add_one, hf] at hm
  rcases List.mem_append.1 hm with h1 | h1
  · exact h g h1
  · simp at h1; rw [h1]; exact hg

set_option maxRecDepth 100000 in
set_option maxHeartbeats 1000000 in
theorem l3All_calls (v : Value) (Fs : List (List Nz)) (m : Nat) (hm : m ≤ 1000) (r : Bool) (hr : Hid (alB m Fs = r)) (w : World) (lo hi : Nat) (hh : hi ≤ w.heap.size) (hv : FormsZ w lo hi v Fs) :
    Calls Tryz.prog 129 #[v, .int .i64 m] w fun e w' => e = .returned (.bool r) ∧ Below w.heap.size w w' := by
  have HV := Lib.hid hv
  obtain ⟨ao, c, rfl, hcap, _⟩ := hv
  go_enter Tryz.func129, Tryz.ntmps129
  go_wp2
  go_loopw [5] (fun i wr => ∃ k : Nat, k ≤ Fs.length ∧ k ≤ m + 1 ∧ i = .int .i64 k ∧ Hid (∀ g ∈ Fs.take k, goodB g = true) ∧ Hid (Below w.heap.size w wr)) (fun i _ => Fs.length - (intOf i).toNat)
  case atStart => exact ⟨0, Nat.zero_le _, by omega, rfl, Lib.hid (fun f hf => by simp at hf), Lib.hid (Below.refl _ _)⟩
  case round =>
    obtain ⟨k, hk, hkm, rfl, hgd, hb⟩ := hrel
    by_cases hlt : k < Fs.length
    · by_cases hle : k ≤ m
      · obtain ⟨f, hf⟩ := lt_get hlt
        obtain ⟨ao1, c1, e1, _, hn⟩ := HV.out.below hb.out hh
        obtain ⟨b, off, vf, rfl, _, hbh, p1, i1⟩ := hn k f hf
        obtain ⟨q1, q2, q3⟩ := slice_inj e1
        subst q1 q3
        clear q2 hn e1
        obtain ⟨rf, hrf⟩ : ∃ r, goodB f = r := ⟨_, rfl⟩
        have C := Lib.hid (goodS_res vf f rf (Lib.hid hrf) wr lo hi (by have := hb.out.size; omega) i1)
        have HF := Lib.hid hf
        have HRF := Lib.hid hrf
        have hbs := hb.out.size
        obtain ⟨af, nf, cf, rfl⟩ : ∃ a n c, vf = .slice a n c := by obtain ⟨a, c, e, _⟩ := i1; exact ⟨a, _, c, e⟩
        have k0 : (0 : Int) ≤ k := by omega
        have k1 : (k : Int) < Fs.length := by omega
        have k2 : (k : Int) ≤ m := by omega
        clear hf hrf i1
        go_wp2_with fail
        refine C.out.mono ?_
        rintro e w1 ⟨rfl, hb1⟩
        have HB1 := Lib.hid (hb.out.trans (hb1.mono hbs))
        clear hb1 C hb p1
        cases rf with
        | false =>
          obtain rfl : r = false := by
            rw [← hr.out]
            unfold alB
            rw [Bool.and_eq_false_iff]
            right
            rw [List.all_eq_false]
            exact ⟨f, List.mem_of_getElem? HF.out, by rw [HRF.out]; simp⟩
          clear hr
          go_wp2_with fail
          go_ret
          exact ⟨rfl, HB1.out⟩
        | true =>
          have HG2 := Lib.hid (all_take_snoc hgd.out HF.out HRF.out)
          clear hgd
          go_wp2_with fail
          go_roundw
          case rel => exact ⟨k + 1, by omega, by omega, by go_num, HG2, HB1⟩
          case measure => first | (simp [intOf]; done) | (simp [intOf]; omega)
      · obtain rfl : r = false := by
          rw [← hr.out]
          unfold alB
          rw [Bool.and_eq_false_iff]
          left
          rw [decide_eq_false_iff_not]
          omega
        have k1 : (k : Int) < Fs.length := by omega
        have k2 : ¬ (k : Int) ≤ m := by omega
        have k3 : ¬ (Fs.length : Int) ≤ m := by omega
        clear hr
        go_wp2
        go_ret
        exact ⟨by first | rfl | exact ret_bool (decide_eq_false k3) | exact ret_bool (by simp; omega), hb.out⟩
    · have hke : k = Fs.length := by omega
      subst hke
      have HRR : Hid (decide (Fs.length ≤ m) = r) := Lib.hid (by
        rw [← hr.out]
        unfold alB
        have h := hgd.out
        rw [List.take_length] at h
        rw [List.all_eq_true.2 h, Bool.and_true])
      clear hr hgd
      go_wp2
      all_goals
        go_ret
        exact ⟨by first | exact ret_bool HRR.out | exact ret_bool (by rw [← HRR.out]; simp) | exact ret_bool (by rw [← HRR.out]; simp; omega), hb.out⟩
end

section
set_option linter.unusedVariables false
set_option linter.unusedSimpArgs false
open Go.RowKit

def SoPostS (w : World) (g : List Nz) (ok : Bool) (e : Ending) (w' : World) : Prop := ∃ a c, e = .returned (.tuple #[.agg #[.slice a g.length c], .bool ok]) ∧ NodesZ w' w.heap.size w'.heap.size (.slice a g.length c) g ∧ Below w.heap.size w w'
theorem soPostS_none {w w' : World} {e : Ending} (he : e = .returned (.tuple #[.agg #[.slice none 0 0], .bool false])) (hb : Below w.heap.size w w') : SoPostS w [] false e w' := ⟨none, 0, he, ⟨none, 0, rfl, by simp, fun j nd hj => by simp at hj⟩, hb⟩

theorem pairC_below {B b o : Nat} {v1 v2 : Value} {W w1 : World} (hb : Below W.heap.size W w1) (h : W.cell? ⟨B, 0, none⟩ = some v1 ∧ W.cell? ⟨b, o, none⟩ = some v2) : w1.cell? ⟨B, 0, none⟩ = some v1 ∧ w1.cell? ⟨b, o, none⟩ = some v2 :=
  ⟨(bcell hb _ _ (block_of_cell h.1)).trans h.1, (bcell hb _ _ (block_of_cell h.2)).trans h.2⟩

theorem pairC_re {B b q : Nat} {v1 v2 : Value} {W : World} {o o' : Obj} (h1 : B < W.heap.size) (h2 : b < W.heap.size) (h : (W.alloc o).cell? ⟨B, 0, none⟩ = some v1 ∧ (W.alloc o).cell? ⟨b, q, none⟩ = some v2) : (W.alloc o').cell? ⟨B, 0, none⟩ = some v1 ∧ (W.alloc o').cell? ⟨b, q, none⟩ = some v2 := by
  have b1 : Below W.heap.size W (W.alloc o) := (Below.refl _ _).alloc (Nat.le_refl _) _
  have b2 : Below W.heap.size W (W.alloc o') := (Below.refl _ _).alloc (Nat.le_refl _) _
  exact ⟨(bcell b2 _ _ h1).trans ((bcell b1 _ _ h1).symm.trans h.1), (bcell b2 _ _ h2).trans ((bcell b1 _ _ h2).symm.trans h.2)⟩

theorem pairC_set {B b o q : Nat} {v1 v2 u : Value} {W : World} (h1 : B ≠ q) (h2 : b ≠ q) (h : W.cell? ⟨B, 0, none⟩ = some v1 ∧ W.cell? ⟨b, o, none⟩ = some v2) : (W.setCell ⟨q, 0, none⟩ u).cell? ⟨B, 0, none⟩ = some v1 ∧ (W.setCell ⟨q, 0, none⟩ u).cell? ⟨b, o, none⟩ = some v2 :=
  ⟨(World.cell?_setCell_other _ _ _ _ (fun e => by injection e with e _ _; omega)).trans h.1, (World.cell?_setCell_other _ _ _ _ (fun e => by injection e with e _ _; omega)).trans h.2⟩

set_option maxRecDepth 100000 in
set_option maxHeartbeats 4000000 in
theorem sumOfS_calls (v : Value) (Fs : List (List Nz)) (g : List Nz) (ok : Bool) (hok : Hid (soOk Fs = ok)) (hg : Hid (soV Fs = g)) (w : World) (lo hi : Nat) (hh : hi ≤ w.heap.size) (hv : FormsZ w lo hi v Fs) :
    Calls Tryz.prog 76 #[v] w (SoPostS w g ok) := by
  have HV := Lib.hid fun (W : World) (hW : Below w.heap.size w W) => hv.below hW hh
  have hb0 : Below w.heap.size w (w.alloc (.cells #[.slice none 0 0] 26)) := (Below.refl _ _).alloc (Nat.le_refl _) _
  have hx0 : BoxAt (w.alloc (.cells #[.slice none 0 0] 26)) w.heap.size (.slice none 0 0) := ⟨by go_simp, by go_simp⟩
  have HB0 := Lib.hid hb0
  have HX0 := Lib.hid hx0
  obtain ⟨r0, hr0⟩ : ∃ r, alB 12 Fs = r := ⟨_, rfl⟩
  have CA := Lib.hid (l3All_calls v Fs 12 (by omega) r0 (Lib.hid hr0) (w.alloc (.cells #[.slice none 0 0] 26)) lo hi (by have := hb0.size; omega) (hv.below hb0 hh))
  have HR0 := Lib.hid hr0
  obtain ⟨av, cv, rfl⟩ : ∃ a c, v = .slice a Fs.length c := by obtain ⟨a, c, e, _⟩ := hv; exact ⟨a, c, e⟩
  clear hv hb0 hx0 hr0
  go_enter Tryz.func76, Tryz.ntmps76
  go_wp2_with fail
  refine CA.out.mono ?_
  rintro e w0 ⟨rfl, hb1⟩
  have HBa := Lib.hid (below_viaZ HB0.out hb1)
  have HXa := Lib.hid (HX0.out.below hb1)
  clear hb1 CA HB0 HX0
  cases r0 with
  | false =>
    obtain rfl : ok = false := by rw [← hok.out]; exact soOk_all HR0.out
    obtain rfl : g = [] := by rw [← hg.out, soV_no hok.out]
    obtain ⟨d1, z1⟩ := HXa.out
    have B4 := Lib.hid (HBa.out.setCell (p := ⟨w.heap.size, 0, none⟩) (Nat.le_refl _) (.slice none 0 0))
    have hcr := World.cell?_setCell_same w0 ⟨w.heap.size, 0, none⟩ (.slice none 0 0) d1
    go_wp2_with fail
    exact bodyPost_ret (v := .tuple #[.agg #[.slice none 0 0], .bool false]) (by simp [results, Tryz.results76, go_sem, hcr]) rfl (soPostS_none rfl B4.out)
  | true =>
    have hn := (alB_parts HR0.out).1
    have C0 := Lib.hid (zeroS_calls w0)
    have HS2 : Hid (ok = (soF Fs).2) := Lib.hid (by rw [← hok.out]; unfold soOk; rw [decide_eq_true hn, Bool.true_and])
    have HS1 : Hid (g = if ok then (soF Fs).1 else []) := Lib.hid (by
      cases ho : ok with
      | false => rw [← hg.out, soV_no (by rw [hok.out, ho])]; rfl
      | true => rw [← hg.out, soV_yes (by rw [hok.out, ho])]; rfl)
    have ez : (zeroD.map upN).length = 1 := rfl
    clear hok hg
    go_wp2_with fail
    refine C0.out.mono ?_
    rintro e w1 ⟨a0, c0, rfl, hz0, hb1⟩
    rw [ez]
    rw [ez] at hz0
    have hL1 : Below w1.heap.size w1 (w1.alloc (.cells #[.slice a0 1 c0] 26)) := (Below.refl _ _).alloc (Nat.le_refl _) _
    have b1 := below_viaZ hb1 hL1
    have HB1 := Lib.hid (below_viaZ HBa.out b1)
    have HX1 := Lib.hid (HXa.out.below b1)
    have HS0 : Hid (BoxAt (w1.alloc (.cells #[.slice a0 1 c0] 26)) w1.heap.size (.slice a0 ((soF (Fs.take 0)).1).length c0)) := Lib.hid ⟨by rw [List.take_zero]; show World.cell? _ _ = some (.slice a0 1 c0); go_simp, by go_simp⟩
    have hlt0 := block_of_cell HXa.out.1
    have hz1 : w.heap.size < w1.heap.size := by have := hb1.size; omega
    have HO0 : Hid (NodesZ (w1.alloc (.cells #[.slice a0 1 c0] 26)) (w.heap.size + 1) w1.heap.size (.slice a0 ((soF (Fs.take 0)).1).length c0) ((soF (Fs.take 0)).1)) := Lib.hid (by rw [List.take_zero]; exact (hz0.below hL1 (Nat.le_refl _)).wide (by omega) (Nat.le_refl _))
    obtain ⟨B, hB⟩ : ∃ B, w1.heap.size = B := ⟨_, rfl⟩
    rw [hB] at HS0 hz1 HO0
    have HBE := Lib.hid hB
    clear hz0 hb1 hL1 b1 C0 HBa HXa
    go_wp2
    go_loopw [5] (fun i wr => ∃ (k : Nat) (a : Option Addr) (c hi2 : Nat), k ≤ Fs.length ∧ i = .int .i64 k ∧ hi2 ≤ wr.heap.size ∧ Hid ((soF (Fs.take k)).2 = true) ∧ Hid (BoxAt wr B (.slice a ((soF (Fs.take k)).1).length c)) ∧ Hid (NodesZ wr (w.heap.size + 1) hi2 (.slice a ((soF (Fs.take k)).1).length c) ((soF (Fs.take k)).1)) ∧
      Hid (BoxAt wr w.heap.size (.slice none 0 0)) ∧ Hid (Below w.heap.size w wr)) (fun i _ => Fs.length - (intOf i).toNat)
    case atStart => exact ⟨0, _, _, _, Nat.zero_le _, rfl, by rw [← HBE.out]; simp, Lib.hid (by rw [List.take_zero]; rfl), HS0, HO0, HX1, HB1⟩
    case round =>
      obtain ⟨k, a, c, hi2, hk, rfl, hh2, hyes, hbx, ho, hbr, hb⟩ := hrel
      clear HS0 HO0 HX1 HB1
      by_cases hlt : k < Fs.length
      · obtain ⟨f, hf⟩ := lt_get hlt
        obtain ⟨ao1, c1, e1, _, hnn⟩ := HV.out wr hb.out
        obtain ⟨b, off, vf, rfl, _, hbh, p1, i1⟩ := hnn k f hf
        obtain ⟨q1, q2, q3⟩ := slice_inj e1
        subst q1 q3
        clear q2 hnn e1
        obtain ⟨af, cf, hvf⟩ : ∃ a c, vf = .slice a f.length c := by obtain ⟨a, c, e, _⟩ := i1; exact ⟨a, c, e⟩
        subst hvf
        obtain ⟨r, hr⟩ : ∃ r, sumOk (soF (Fs.take k)).1 f = r := ⟨_, rfl⟩
        have HNX : Hid (r = true → soF (Fs.take (k + 1)) = (sumV (soF (Fs.take k)).1 f, true)) := Lib.hid (fun h => soF_yes hf hyes.out (by rw [hr]; exact h))
        have HNO : Hid (r = false → (soF Fs).2 = false) := Lib.hid (fun h => soF_no hf (by rw [hr]; exact h))
        obtain ⟨S, hS⟩ : ∃ S, (soF (Fs.take k)).1 = S := ⟨_, rfl⟩
        rw [hS] at hbx ho hr HNX
        obtain ⟨g2, hg2⟩ : ∃ g, sumV S f = g := ⟨_, rfl⟩
        rw [hg2] at HNX
        have hbs := hb.out.size
        have hBl := block_of_cell hbx.out.1
        have C := Lib.hid fun (W : World) (hW : Below wr.heap.size wr W) => sumS_calls (.slice a S.length c) (.slice af f.length cf) S f g2 r (Lib.hid hr) (Lib.hid hg2) W (w.heap.size + 1) hi2 lo hi (by have := hW.size; omega) (by have := hW.size; omega) (ho.out.below hW hh2) (i1.below hW (by omega))
        have hpB := hbx.out.1
        have k0 : (0 : Int) ≤ k := by omega
        have k1 : (k : Int) < Fs.length := by omega
        have hbl := block_of_cell p1
        have hS0 : wr.drew.cell? ⟨B, 0, none⟩ = some (.slice a S.length c) ∧ wr.drew.cell? ⟨b, off + k, none⟩ = some (.slice af f.length cf) := ⟨hpB, p1⟩
        have bl0 : Below wr.heap.size wr wr.drew := below_drewN (Below.refl _ _) 1
        have bl1 := fun o => show Below wr.heap.size wr (wr.alloc o).drew from below_drewN ((Below.refl _ _).alloc (Nat.le_refl _) _) 1
        clear hf hr hS hg2
        go_wp2
        go_region_held3 (fun w' : World => w'.cell? ⟨B, 0, none⟩ = some (.slice a S.length c) ∧ w'.cell? ⟨b, off + k, none⟩ = some (.slice af f.length cf)) (first | exact hS0 | (go_split_ands; exact ⟨‹_›, ‹_›⟩) | (go_split_ands; exact pairC_below hb2 ⟨‹_›, ‹_›⟩) | (go_split_ands; exact pairC_below ((Below.refl _ _).alloc (Nat.le_refl _) _) ⟨‹_›, ‹_›⟩) | (go_split_ands; exact pairC_set (by omega) (by omega) ⟨‹_›, ‹_›⟩) | (go_split_ands; exact pairC_re (by have := HBW.out.size; omega) (by have := HBW.out.size; omega) ⟨‹_›, ‹_›⟩)) (first
          | (go_at_call 64; (with_reducible refine (C.out _ (bl1 _)).mono ?_); rintro e w2 ⟨a2, c2, rfl, hn2, hb2⟩; have kx := (bcell hb2 wr.heap.size 0 (by simp)).trans (show World.cell? _ _ = some (.slice none 0 0) by go_simp); have kf := (hb2.frozen (p := ⟨wr.heap.size, 0, none⟩) (by simp)).trans (show World.frozen? _ _ = false by go_simp); have HBW : Hid (Below wr.heap.size wr w2) := Lib.hid (below_viaZ (bl1 _) hb2))
          | (go_at_call 64; (with_reducible refine (C.out _ bl0).mono ?_); rintro e w2 ⟨a2, c2, rfl, hn2, hb2⟩; have HBW : Hid (Below wr.heap.size wr w2) := Lib.hid (below_viaZ bl0 hb2)))
        · have hbw := hb.out.size
          have hal : Below w2.heap.size w2 (w2.alloc (.cells #[.slice a2 g2.length c2] 26)) := (Below.refl _ _).alloc (Nat.le_refl _) _
          have HW3 := Lib.hid (below_viaZ HBW.out hal)
          have HN3 : Hid (NodesZ (w2.alloc (.cells #[.slice a2 g2.length c2] 26)) wr.heap.size w2.heap.size (.slice a2 g2.length c2) g2) := Lib.hid (hn2.below hal (Nat.le_refl _))
          have kz : (w2.alloc (.cells #[.slice a2 g2.length c2] 26)).cell? ⟨w2.heap.size, 0, none⟩ = some (.slice a2 g2.length c2) := by go_simp
          have hi3 : w2.heap.size ≤ (w2.alloc (.cells #[.slice a2 g2.length c2] 26)).heap.size := hal.size
          have hBlt : B < wr.heap.size := hBl
          clear hal
          have HB3 := Lib.hid (hb.out.trans (HW3.out.mono hbw))
          have HX3 := Lib.hid (hbr.out.below HW3.out)
          obtain ⟨dB, zB⟩ := hbx.out.below HW3.out
          have s3 := HW3.out.size
          go_upto_region 8 with fail
          generalize w2.alloc (.cells #[.slice a2 g2.length c2] 26) = W3 at HW3 HN3 kz HB3 HX3 dB zB s3 hi3 ⊢
          clear hbx ho hbr hb HW3 hpB p1 hS0 bl0 bl1 C hn2 hb2 HBW i1
          cases r with
          | false =>
            obtain rfl : ok = false := by rw [HS2.out]; exact HNO.out rfl
            obtain rfl : g = [] := by rw [HS1.out]; rfl
            obtain ⟨d1, z1⟩ := HX3.out
            have B4 := Lib.hid (HB3.out.setCell (p := ⟨w.heap.size, 0, none⟩) (Nat.le_refl _) (.slice none 0 0))
            have hcr := World.cell?_setCell_same W3 ⟨w.heap.size, 0, none⟩ (.slice none 0 0) d1
            clear hyes HNX HNO
            go_wp2_with fail
            exact bodyPost_ret (v := .tuple #[.agg #[.slice none 0 0], .bool false]) (by simp [results, Tryz.results76, go_sem, hcr]) rfl (soPostS_none rfl B4.out)
          | true =>
            have hnx := HNX.out rfl
            have HY : Hid ((soF (Fs.take (k + 1))).2 = true) := Lib.hid (by rw [hnx])
            have HE : Hid ((soF (Fs.take (k + 1))).1 = g2) := Lib.hid (by rw [hnx])
            have O7 : Only W3 (W3.setCell ⟨B, 0, none⟩ (.slice a2 g2.length c2)) (fun b => b = B) := Only.of_set (F := fun b => b = B) (p := ⟨B, 0, none⟩) _ rfl
            have R1 : Hid (BoxAt (W3.setCell ⟨B, 0, none⟩ (.slice a2 g2.length c2)) B (.slice a2 ((soF (Fs.take (k + 1))).1).length c2)) := Lib.hid (by rw [HE.out]; exact ⟨World.cell?_setCell_same _ _ _ dB, by rw [World.frozen?_setCell]; exact zB⟩)
            have R2 : Hid (NodesZ (W3.setCell ⟨B, 0, none⟩ (.slice a2 g2.length c2)) (w.heap.size + 1) (W3.setCell ⟨B, 0, none⟩ (.slice a2 g2.length c2)).heap.size (.slice a2 ((soF (Fs.take (k + 1))).1).length c2) ((soF (Fs.take (k + 1))).1)) := Lib.hid (by
              rw [HE.out]
              exact (NodesZ.keep HN3.out (fun b o h1 h2 => World.cell?_setCell_other _ _ _ _ (fun e => by injection e with e _ _; omega))).wide (by omega) (by simpa using hi3))
            have R3 := Lib.hid (HX3.out.only O7 (by omega))
            have R4 := Lib.hid (HB3.out.setCell (p := ⟨B, 0, none⟩) (by show w.heap.size ≤ B; omega) (.slice a2 g2.length c2))
            clear hnx HNX HNO HX3 HB3 O7 hyes HN3
            go_wp2_with fail
            go_roundw
            case rel => exact ⟨k + 1, a2, c2, _, by omega, by go_num, Nat.le_refl _, HY, R1, R2, R3, R4⟩
            case measure => first | (simp [intOf]; done) | (simp [intOf]; omega)
        · have hbw := hb.out.size
          have HW3 : Hid (Below wr.heap.size wr (w2.setCell ⟨wr.heap.size, 0, none⟩ (.slice a2 g2.length c2))) := Lib.hid (HBW.out.setCell (Nat.le_refl _) _)
          have HN3 : Hid (NodesZ (w2.setCell ⟨wr.heap.size, 0, none⟩ (.slice a2 g2.length c2)) (wr.heap.size + 1) w2.heap.size (.slice a2 g2.length c2) g2) := Lib.hid ((NodesZ.keep hn2 (fun b o h1 h2 => World.cell?_setCell_other _ _ _ _ (fun e => by injection e with e _ _; simp at h1; omega))).wide (by simp) (Nat.le_refl _))
          have kz : (w2.setCell ⟨wr.heap.size, 0, none⟩ (.slice a2 g2.length c2)).cell? ⟨wr.heap.size, 0, none⟩ = some (.slice a2 g2.length c2) := World.cell?_setCell_same _ _ _ kx
          have hi3 : w2.heap.size ≤ (w2.setCell ⟨wr.heap.size, 0, none⟩ (.slice a2 g2.length c2)).heap.size := by simp
          have hBlt : B < wr.heap.size := hBl
          clear kx kf
          have HB3 := Lib.hid (hb.out.trans (HW3.out.mono hbw))
          have HX3 := Lib.hid (hbr.out.below HW3.out)
          obtain ⟨dB, zB⟩ := hbx.out.below HW3.out
          have s3 := HW3.out.size
          go_upto_region 8 with fail
          generalize w2.setCell ⟨wr.heap.size, 0, none⟩ (.slice a2 g2.length c2) = W3 at HW3 HN3 kz HB3 HX3 dB zB s3 hi3 ⊢
          clear hbx ho hbr hb HW3 hpB p1 hS0 bl0 bl1 C hn2 hb2 HBW i1
          cases r with
          | false =>
            obtain rfl : ok = false := by rw [HS2.out]; exact HNO.out rfl
            obtain rfl : g = [] := by rw [HS1.out]; rfl
            obtain ⟨d1, z1⟩ := HX3.out
            have B4 := Lib.hid (HB3.out.setCell (p := ⟨w.heap.size, 0, none⟩) (Nat.le_refl _) (.slice none 0 0))
            have hcr := World.cell?_setCell_same W3 ⟨w.heap.size, 0, none⟩ (.slice none 0 0) d1
            clear hyes HNX HNO
            go_wp2_with fail
            exact bodyPost_ret (v := .tuple #[.agg #[.slice none 0 0], .bool false]) (by simp [results, Tryz.results76, go_sem, hcr]) rfl (soPostS_none rfl B4.out)
          | true =>
            have hnx := HNX.out rfl
            have HY : Hid ((soF (Fs.take (k + 1))).2 = true) := Lib.hid (by rw [hnx])
            have HE : Hid ((soF (Fs.take (k + 1))).1 = g2) := Lib.hid (by rw [hnx])
            have O7 : Only W3 (W3.setCell ⟨B, 0, none⟩ (.slice a2 g2.length c2)) (fun b => b = B) := Only.of_set (F := fun b => b = B) (p := ⟨B, 0, none⟩) _ rfl
            have R1 : Hid (BoxAt (W3.setCell ⟨B, 0, none⟩ (.slice a2 g2.length c2)) B (.slice a2 ((soF (Fs.take (k + 1))).1).length c2)) := Lib.hid (by rw [HE.out]; exact ⟨World.cell?_setCell_same _ _ _ dB, by rw [World.frozen?_setCell]; exact zB⟩)
            have R2 : Hid (NodesZ (W3.setCell ⟨B, 0, none⟩ (.slice a2 g2.length c2)) (w.heap.size + 1) (W3.setCell ⟨B, 0, none⟩ (.slice a2 g2.length c2)).heap.size (.slice a2 ((soF (Fs.take (k + 1))).1).length c2) ((soF (Fs.take (k + 1))).1)) := Lib.hid (by
              rw [HE.out]
              exact (NodesZ.keep HN3.out (fun b o h1 h2 => World.cell?_setCell_other _ _ _ _ (fun e => by injection e with e _ _; omega))).wide (by omega) (by simpa using hi3))
            have R3 := Lib.hid (HX3.out.only O7 (by omega))
            have R4 := Lib.hid (HB3.out.setCell (p := ⟨B, 0, none⟩) (by show w.heap.size ≤ B; omega) (.slice a2 g2.length c2))
            clear hnx HNX HNO HX3 HB3 O7 hyes HN3
            go_wp2_with fail
            go_roundw
            case rel => exact ⟨k + 1, a2, c2, _, by omega, by go_num, Nat.le_refl _, HY, R1, R2, R3, R4⟩
            case measure => first | (simp [intOf]; done) | (simp [intOf]; omega)
      · have hke : k = Fs.length := by omega
        subst hke
        rw [List.take_length] at hyes hbx ho
        obtain rfl : ok = true := by rw [HS2.out]; exact hyes.out
        have hgS : g = (soF Fs).1 := HS1.out
        rw [← hgS] at hbx ho
        obtain ⟨d1, z1⟩ := hbr.out
        have hlt1 := block_of_cell d1
        have kB := hbx.out.1
        have HN3 : Hid (NodesZ (wr.setCell ⟨w.heap.size, 0, none⟩ (.slice a g.length c)) w.heap.size (wr.setCell ⟨w.heap.size, 0, none⟩ (.slice a g.length c)).heap.size (.slice a g.length c) g) := Lib.hid ((NodesZ.keep ho.out (fun b o h1 h2 => World.cell?_setCell_other _ _ _ _ (fun e => by injection e with e _ _; omega))).wide (by omega) (by simpa using hh2))
        have HB3 := Lib.hid (hb.out.setCell (p := ⟨w.heap.size, 0, none⟩) (Nat.le_refl _) (.slice a g.length c))
        have hcr := World.cell?_setCell_same wr ⟨w.heap.size, 0, none⟩ (.slice a g.length c) d1
        clear hyes hbx ho hbr hb hgS
        go_wp2_with fail
        exact bodyPost_ret (v := .tuple #[.agg #[.slice a g.length c], .bool true]) (by simp [results, Tryz.results76, go_sem, hcr]) rfl ⟨a, c, rfl, HN3.out, HB3.out⟩
end

section
set_option linter.unusedVariables false
set_option linter.unusedSimpArgs false
open Go.RowKit

/-- twelve forms' room, the first k filled -/
def RoomF (w : World) (B k : Nat) (vF : Value) : Prop := ∀ i, i < 12 → w.cell? ⟨B, i, none⟩ = some (if i < k then vF else .slice none 0 0) ∧ w.frozen? ⟨B, i, none⟩ = false
theorem RoomF.below {w w' : World} {B k : Nat} {vF : Value} (h : RoomF w B k vF) (hb : Below w.heap.size w w') : RoomF w' B k vF := fun i hi =>
  have hl := block_of_cell (h i hi).1
  ⟨(bcell hb _ _ hl).trans (h i hi).1, (hb.frozen (p := ⟨B, i, none⟩) hl).trans (h i hi).2⟩
theorem RoomF.next {w : World} {B k : Nat} {vF : Value} (h : RoomF w B k vF) (hk : k < 12) : RoomF (w.setCell ⟨B, k, none⟩ vF) B (k + 1) vF := fun i hi => by
  refine ⟨?_, by rw [World.frozen?_setCell]; exact (h i hi).2⟩
  by_cases e : i = k
  · subst e
    rw [if_pos (by omega)]
    exact World.cell?_setCell_same _ _ _ (h i hi).1
  · rw [World.cell?_setCell_other _ _ _ _ (fun e2 => by injection e2 with _ e2 _; omega), (h i hi).1]
    by_cases h2 : i < k
    · rw [if_pos h2, if_pos (by omega)]
    · rw [if_neg h2, if_neg (by omega)]
theorem RoomF.formsZ {w : World} {B k : Nat} {vF : Value} {F : List Nz} (h : RoomF w B k vF) (hk : k ≤ 12) (hn : NodesZ w 0 w.heap.size vF F) : FormsZ w 0 w.heap.size (.slice (some ⟨B, 0, none⟩) k 12) (List.replicate k F) := by
  refine ⟨some ⟨B, 0, none⟩, 12, by rw [List.length_replicate], by rw [List.length_replicate]; omega, fun j f hj => ?_⟩
  obtain ⟨hm, hlt⟩ : f = F ∧ j < k := by
    have h1 := get_lt hj
    rw [List.length_replicate] at h1
    exact ⟨(List.mem_replicate.1 (List.mem_of_getElem? hj)).2, h1⟩
  subst hm
  have hc := (h j (by omega)).1
  rw [if_pos hlt] at hc
  exact ⟨B, 0, vF, rfl, Nat.zero_le _, block_of_cell hc, by rw [Nat.zero_add]; exact hc, hn⟩

set_option maxRecDepth 100000 in
set_option maxHeartbeats 4000000 in
theorem timesI_calls (va : Value) (n : Int) (f g : List Nz) (ok : Bool) (hok : Hid (tmOk n f = ok)) (hg : Hid (tmV n f = g)) (w : World) (lo hi : Nat) (hh : hi ≤ w.heap.size) (hva : NodesZ w lo hi va f) :
    Calls Tryz.prog 27 #[.int .i64 n, .agg #[va]] w (SoPostI w g ok) := by
  have HB0 := Lib.hid fun o o' => show Below w.heap.size w ((w.alloc o).alloc o') from ((Below.refl _ _).alloc (Nat.le_refl _) _).alloc (by simp) _
  obtain ⟨rg, hrg⟩ : ∃ r, goodB f = r := ⟨_, rfl⟩
  have HRG := Lib.hid hrg
  have CG := Lib.hid fun (W : World) (hW : Below w.heap.size w W) => show Calls Tryz.prog 41 #[.agg #[va]] W fun e w' => e = .returned (.bool rg) ∧ Below W.heap.size W w' from by
    rw [← HRG.out]
    exact goodI_calls va f W lo hi (Nat.le_trans hh hW.size) (hva.below hW hh)
  have HVA := Lib.hid fun (W : World) (hW : Below w.heap.size w W) => hva.below hW hh
  obtain ⟨ao, c0, rfl⟩ : ∃ ao c, va = .slice ao f.length c := by obtain ⟨ao, c, e, _⟩ := hva; exact ⟨ao, c, e⟩
  clear hva hrg
  by_cases hin : -12 ≤ n ∧ n ≤ 12
  case neg =>
    have hno := tmIn_far (f := f) (show n < -12 ∨ 12 < n by omega)
    obtain rfl : ok = false := by rw [← hok.out, tmOk_no hno]
    obtain rfl : g = [] := by rw [← hg.out, tmV_no hno]
    clear hok hg CG HVA hno
    by_cases h1 : n < -12
    · clear hin
      go_enter Tryz.func27, Tryz.ntmps27
      go_wp2_with fail
      exact bodyPost_ret (v := .tuple #[.agg #[.slice none 0 0], .bool false]) (by simp [results, Tryz.results27, go_sem]) rfl (soPostI_none rfl (HB0.out _ _))
    · have h2 : (12 : Int) < n := by omega
      clear hin
      go_enter Tryz.func27, Tryz.ntmps27
      go_wp2_with fail
      exact bodyPost_ret (v := .tuple #[.agg #[.slice none 0 0], .bool false]) (by simp [results, Tryz.results27, go_sem]) rfl (soPostI_none rfl (HB0.out _ _))
  have h1 : ¬ n < -12 := by omega
  have h2 : ¬ (12 : Int) < n := by omega
  go_enter Tryz.func27, Tryz.ntmps27
  go_wp2_with fail
  refine (CG.out _ (HB0.out _ _)).mono ?_
  rintro e w4 ⟨rfl, hb4⟩
  have HP4 : Hid (BoxAt w4 w.heap.size (.slice ao f.length c0)) := Lib.hid (BoxAt.below ⟨by go_simp, by go_simp⟩ hb4)
  have HR4 : Hid (BoxAt w4 (w.heap.size + 1) (.slice none 0 0)) := Lib.hid (BoxAt.below ⟨by go_simp, by go_simp⟩ hb4)
  have HB4 := Lib.hid (Below.trans (HB0.out _ _) (hb4.mono (by simp; omega)))
  clear hb4 CG
  cases rg with
  | false =>
    have hno := tmIn_bad (n := n) HRG.out
    obtain rfl : ok = false := by rw [← hok.out, tmOk_no hno]
    obtain rfl : g = [] := by rw [← hg.out, tmV_no hno]
    have B4 := Lib.hid (HB4.out.setCell (p := ⟨w.heap.size + 1, 0, none⟩) (by show w.heap.size ≤ w.heap.size + 1; omega) (.slice none 0 0))
    obtain ⟨d0, z0⟩ := HR4.out
    have hcr := World.cell?_setCell_same w4 ⟨w.heap.size + 1, 0, none⟩ (.slice none 0 0) d0
    clear hno
    go_wp2_with fail
    exact bodyPost_ret (v := .tuple #[.agg #[.slice none 0 0], .bool false]) (by simp [results, Tryz.results27, go_sem, hcr]) rfl (soPostI_none rfl B4.out)
  | true =>
    have hyes := (tmIn_iff n f).2 ⟨hin, HRG.out⟩
    have HOK : Hid (soOk (tmL n f) = ok) := Lib.hid (by rw [← tmOk_yes hyes]; exact hok.out)
    have HG : Hid (soV (tmL n f) = g) := Lib.hid (by rw [← tmV_yes hyes]; exact hg.out)
    obtain ⟨gN, hgN⟩ : ∃ g, negV f = g := ⟨_, rfl⟩
    have HGN := Lib.hid hgN
    have C := Lib.hid (negI_calls (.slice ao f.length c0) f gN true HRG HGN w4 lo hi (Nat.le_trans hh HB4.out.size) (HVA.out w4 HB4.out))
    have HZ4 : Hid (NodesZ w4 0 w4.heap.size (.slice ao f.length c0) f) := Lib.hid ((HVA.out w4 HB4.out).wide (Nat.zero_le _) (Nat.le_trans hh HB4.out.size))
    clear hok hg hyes hgN HVA
    obtain ⟨k4, z4⟩ := HP4.out
    go_upto_if 23 with fail
    go_cut [0] (fun s0 wx => ∃ (k : Nat) (aF : Option Addr) (cF : Nat) (F : List Nz), s0 = .int .i64 k ∧ k ≤ 12 ∧ Hid (tmL n f = List.replicate k F) ∧ Hid (BoxAt wx w.heap.size (.slice aF F.length cF)) ∧ Hid (NodesZ wx 0 wx.heap.size (.slice aF F.length cF) F) ∧ Hid (BoxAt wx (w.heap.size + 1) (.slice none 0 0)) ∧ Hid (Below w.heap.size w wx))
    case first =>
      by_cases hn : n < 0
      · have hk : -n = (n.natAbs : Int) := by omega
        have HT := Lib.hid (tmL_neg hn HGN.out hk)
        have hk12 : n.natAbs ≤ 12 := by omega
        clear HG HOK hk
        go_wp2_with fail
        refine C.out.mono ?_
        rintro e w6 ⟨a, c, vs, rfl, hn6, hb6⟩
        have hal : Below w6.heap.size w6 (w6.alloc (.cells #[.slice a gN.length c] 26)) := (Below.refl _ _).alloc (Nat.le_refl _) _
        have hb7 := below_viaS hb6 hal
        obtain ⟨d6, z6⟩ := HP4.out.below hb7
        have hs4 := HB4.out.size
        have hs6 := hb6.size
        have hlt4 := block_of_cell HR4.out.1
        have j1 : (w6.alloc (.cells #[.slice a gN.length c] 26)).cell? ⟨w6.heap.size, 0, none⟩ = some (.slice a gN.length c) := by go_simp
        have HN7 := Lib.hid ((hn6.below hal).nodesZ)
        have HR7 := Lib.hid (HR4.out.below hb7)
        have HB7 := Lib.hid (HB4.out.trans (hb7.mono HB4.out.size))
        have hlt6 := block_of_cell d6
        clear hn6 hb6 hb7 C HP4 HR4 HB4 k4 z4
        go_upto_region 7 with fail
        generalize w6.alloc (.cells #[.slice a gN.length c] 26) = W7 at hal d6 z6 j1 HN7 HR7 HB7 hlt6 ⊢
        go_region
        all_goals
          have hd : Below W7.heap.size W7 W7.drew := below_drewN (Below.refl _ _) 1
          have O8 : Only W7.drew (W7.drew.setCell ⟨w.heap.size, 0, none⟩ (.slice a gN.length c)) (fun b => b = w.heap.size) := Only.of_set (F := fun b => b = w.heap.size) (p := ⟨w.heap.size, 0, none⟩) _ rfl
          have R1 : Hid (BoxAt (W7.drew.setCell ⟨w.heap.size, 0, none⟩ (.slice a gN.length c)) w.heap.size (.slice a gN.length c)) := Lib.hid ⟨World.cell?_setCell_same _ _ _ d6, by rw [World.frozen?_setCell]; exact z6⟩
          have R2 : Hid (NodesZ (W7.drew.setCell ⟨w.heap.size, 0, none⟩ (.slice a gN.length c)) 0 (W7.drew.setCell ⟨w.heap.size, 0, none⟩ (.slice a gN.length c)).heap.size (.slice a gN.length c) gN) := Lib.hid ((NodesZ.keep (HN7.out.below hd (Nat.le_refl _)) (fun b o h1 h2 => World.cell?_setCell_other _ _ _ _ (fun e => by injection e with e _ _; omega))).wide (Nat.zero_le _) (by simp))
          have R3 := Lib.hid ((HR7.out.below hd).only O8 (by omega))
          have R4 : Hid (Below w.heap.size w (W7.drew.setCell ⟨w.heap.size, 0, none⟩ (.slice a gN.length c))) := Lib.hid ((HB7.out.trans (hd.mono HB7.out.size)).setCell (by show w.heap.size ≤ w.heap.size; omega) _)
          clear HN7 HR7 HB7 hd O8 j1 d6 z6
          go_wp2_with fail
          go_meet
          exact ⟨n.natAbs, a, c, gN, by first | exact congrArg (Value.int .i64) (by omega) | go_num, hk12, HT, R1, R2, R3, R4⟩
      · have HT := Lib.hid (tmL_pos (f := f) hn (show n = (n.natAbs : Int) by omega))
        have hk12 : n.natAbs ≤ 12 := by omega
        clear HG HOK C
        go_wp2_with fail
        go_meet
        exact ⟨n.natAbs, ao, c0, f, congrArg (Value.int .i64) (by omega), hk12, HT, HP4, HZ4, HR4, HB4⟩
    case rest =>
      obtain ⟨k, aF, cF, F, rfl, hk12, HT, HPX, HZX, HRX, HBX⟩ := hcut
      rw [HT.out] at HOK HG
      clear C HP4 HR4 HB4 k4 z4 HZ4 HGN HT
      have hro : RoomF (wc.alloc (.cells #[.slice none 0 0, .slice none 0 0, .slice none 0 0, .slice none 0 0, .slice none 0 0, .slice none 0 0, .slice none 0 0, .slice none 0 0, .slice none 0 0, .slice none 0 0, .slice none 0 0, .slice none 0 0] 84)) wc.heap.size 0 (.slice aF F.length cF) := fun i hi => by
        rw [if_neg (by omega)]
        rcases (show i = 0 ∨ i = 1 ∨ i = 2 ∨ i = 3 ∨ i = 4 ∨ i = 5 ∨ i = 6 ∨ i = 7 ∨ i = 8 ∨ i = 9 ∨ i = 10 ∨ i = 11 by omega) with rfl | rfl | rfl | rfl | rfl | rfl | rfl | rfl | rfl | rfl | rfl | rfl <;> exact ⟨by go_simp, by go_simp⟩
      have HRO0 := Lib.hid hro
      have HBW0 : Hid (Below wc.heap.size wc (wc.alloc (.cells #[.slice none 0 0, .slice none 0 0, .slice none 0 0, .slice none 0 0, .slice none 0 0, .slice none 0 0, .slice none 0 0, .slice none 0 0, .slice none 0 0, .slice none 0 0, .slice none 0 0, .slice none 0 0] 84))) := Lib.hid ((Below.refl _ _).alloc (Nat.le_refl _) _)
      clear hro
      go_wp2
      go_loopw [9, 36] (fun _ i wr => ∃ (j : Nat), j ≤ k ∧ i = .int .i64 j ∧ Hid (RoomF wr wc.heap.size j (.slice aF F.length cF)) ∧ Hid (Below wc.heap.size wc wr)) (fun _ i _ => k - (intOf i).toNat)
      case atStart => exact ⟨0, by omega, rfl, HRO0, HBW0⟩
      case round =>
        obtain ⟨j, hj, rfl, hro, hbw⟩ := hrel
        clear HRO0 HBW0
        by_cases hlt : j < k
        · have kp := (HPX.out.below hbw.out).1
          have hsz := hbw.out.size
          have hj0 : (0 : Int) ≤ j := by omega
          have hj1 : (j : Int) < k := by omega
          have hj2 : (j : Int) < 12 := by omega
          have hj3 : j < 12 := by omega
          obtain ⟨d8, z8⟩ := hro.out j hj3
          have R1 := Lib.hid (hro.out.next hj3)
          have R2 := Lib.hid (hbw.out.setCell (p := ⟨wc.heap.size, j, none⟩) (Nat.le_refl _) (.slice aF F.length cF))
          clear hro hbw
          go_wp2_with fail
          go_roundw
          case rel => exact ⟨j + 1, by omega, by go_num, R1, R2⟩
          case measure => first | (simp [intOf]; done) | (simp [intOf]; omega)
        · have hjk : j = k := by omega
          subst hjk
          have HBr := Lib.hid (HBX.out.trans (hbw.out.mono HBX.out.size))
          have CS := Lib.hid (sumOfI_calls (.slice (some ⟨wc.heap.size, 0, none⟩) j 12) (List.replicate j F) g ok HOK HG wr 0 wr.heap.size (Nat.le_refl _) (hro.out.formsZ hk12 ((HZX.out.below hbw.out (Nat.le_refl _)).wide (Nat.le_refl _) hbw.out.size)))
          have HR5 := Lib.hid (HRX.out.below hbw.out)
          have hj0 : (0 : Int) ≤ j := by omega
          have hj2 : (j : Int) ≤ 12 := by omega
          clear hro hbw HPX HZX HRX HOK HG HRG HBX
          go_wp2_with fail
          refine CS.out.mono ?_
          rintro e w9 ⟨a, c, vs, rfl, hn9, hb9⟩
          obtain ⟨d9, z9⟩ := HR5.out.below hb9
          have hs9 := HBr.out.size
          have hlt5 := block_of_cell HR5.out.1
          have HN : Hid (OwnF (w9.setCell ⟨w.heap.size + 1, 0, none⟩ (.slice a g.length c)) w.heap.size (.slice a g.length c) vs g) := Lib.hid ((hn9.setCell (by show w.heap.size + 1 < _; omega)).mono hs9)
          have HB9 : Hid (Below w.heap.size w (w9.setCell ⟨w.heap.size + 1, 0, none⟩ (.slice a g.length c))) := Lib.hid ((HBr.out.trans (hb9.mono hs9)).setCell (by show w.heap.size ≤ w.heap.size + 1; omega) _)
          have hcr := World.cell?_setCell_same w9 ⟨w.heap.size + 1, 0, none⟩ (.slice a g.length c) d9
          clear hn9 hb9 CS HR5 HBr
          go_wp2_with fail
          exact bodyPost_ret (v := .tuple #[.agg #[.slice a g.length c], .bool ok]) (by simp [results, Tryz.results27, go_sem, hcr]) rfl ⟨a, c, vs, rfl, HN.out, HB9.out⟩
end

section
set_option linter.unusedVariables false
set_option linter.unusedSimpArgs false
open Go.RowKit

theorem cell_one_newF (w : World) (u : Value) : ∀ (j : Nat) (v : Value), [u][j]? = some v → (w.alloc (.cells #[u] 26)).cell? ((⟨w.heap.size, 0, none⟩ : Addr).add j) = some v := fun j v hj => by
  match j, hj with
  | 0, hj =>
    simp at hj
    subst hj
    simp [Addr.add]

/-- a row of one form, again and again -/
theorem formsZ_same {w : World} {base g c k : Nat} {vF : Value} {F : List Nz} (h : w.ownsRow base 26 1 (.slice (some ⟨g, 0, none⟩) k c) k (List.replicate k vF)) (hn : NodesZ w 0 w.heap.size vF F) : FormsZ w 0 w.heap.size (.slice (some ⟨g, 0, none⟩) k c) (List.replicate k F) := by
  refine ⟨some ⟨g, 0, none⟩, c, by rw [List.length_replicate], by rw [List.length_replicate]; exact World.ownsRow.caps h, fun j f hj => ?_⟩
  obtain ⟨hm, hlt⟩ : f = F ∧ j < k := by
    have h1 := get_lt hj
    rw [List.length_replicate] at h1
    exact ⟨(List.mem_replicate.1 (List.mem_of_getElem? hj)).2, h1⟩
  subst hm
  have hc := World.ownsRow.cells h (g := g) rfl j vF (by rw [List.getElem?_replicate, if_pos hlt])
  have hc2 : w.cell? ⟨g, j, none⟩ = some vF := by
    cases j with
    | zero => simpa [Addr.add] using hc
    | succ j => simpa [Addr.add] using hc
  exact ⟨g, 0, vF, rfl, Nat.zero_le _, block_of_cell hc2, by rw [Nat.zero_add]; exact hc2, hn⟩

theorem replicate_snoc {k : Nat} (v : Value) : List.replicate k v ++ [v] = List.replicate (k + 1) v := (List.replicate_succ' (n := k) (a := v)).symm

set_option maxRecDepth 100000 in
set_option maxHeartbeats 4000000 in
theorem timesS_calls (va : Value) (n : Int) (f g : List Nz) (ok : Bool) (hok : Hid (tmOk n f = ok)) (hg : Hid (tmV n f = g)) (w : World) (lo hi : Nat) (hh : hi ≤ w.heap.size) (hva : NodesZ w lo hi va f) :
    Calls Tryz.prog 28 #[.int .i64 n, .agg #[va]] w (SoPostS w g ok) := by
  obtain ⟨i0, hi0, hz0, hz1, hz2⟩ := info_parts infoFormA
  have HB0 := Lib.hid fun o o' => show Below w.heap.size w ((w.alloc o).alloc o') from ((Below.refl _ _).alloc (Nat.le_refl _) _).alloc (by simp) _
  obtain ⟨rg, hrg⟩ : ∃ r, goodB f = r := ⟨_, rfl⟩
  have HRG := Lib.hid hrg
  have CG := Lib.hid fun (W : World) (hW : Below w.heap.size w W) => show Calls Tryz.prog 66 #[.agg #[va]] W fun e w' => e = .returned (.bool rg) ∧ Below W.heap.size W w' from by
    rw [← HRG.out]
    exact goodS_calls va f W lo hi (Nat.le_trans hh hW.size) (hva.below hW hh)
  have HVA := Lib.hid fun (W : World) (hW : Below w.heap.size w W) => hva.below hW hh
  obtain ⟨ao, c0, rfl⟩ : ∃ ao c, va = .slice ao f.length c := by obtain ⟨ao, c, e, _⟩ := hva; exact ⟨ao, c, e⟩
  clear hva hrg
  by_cases hin : -12 ≤ n ∧ n ≤ 12
  case neg =>
    have hfar : n < -12 ∨ (-12 ≤ n ∧ 12 < n) := by omega
    have hno := tmIn_far (f := f) (show n < -12 ∨ 12 < n by omega)
    obtain rfl : ok = false := by rw [← hok.out, tmOk_no hno]
    obtain rfl : g = [] := by rw [← hg.out, tmV_no hno]
    have CI := Lib.hid fun W => inS_false n (-12) 12 W hfar
    clear hok hg CG HVA hno
    go_enter Tryz.func28, Tryz.ntmps28
    go_wp2_with fail
    refine (CI.out _).mono ?_
    rintro e w4 ⟨rfl, rfl⟩
    have B4 := Lib.hid ((HB0.out (.cells #[.slice ao f.length c0] 26) (.cells #[.slice none 0 0] 26)).setCell (p := ⟨w.heap.size + 1, 0, none⟩) (by show w.heap.size ≤ w.heap.size + 1; omega) (.slice none 0 0))
    have hcr := World.cell?_setCell_same ((w.alloc (.cells #[.slice ao f.length c0] 26)).alloc (.cells #[.slice none 0 0] 26)) ⟨w.heap.size + 1, 0, none⟩ (.slice none 0 0) (show World.cell? _ _ = some (.slice none 0 0) by go_simp)
    go_wp2_with fail
    exact bodyPost_ret (v := .tuple #[.agg #[.slice none 0 0], .bool false]) (by simp [results, Tryz.results28, go_sem, hcr]) rfl (soPostS_none rfl (HB0.out _ _))
  have CI := Lib.hid fun W => inS_true n (-12) 12 W hin.1 hin.2
  go_enter Tryz.func28, Tryz.ntmps28
  go_wp2_with fail
  refine (CI.out _).mono ?_
  rintro e w3 ⟨rfl, rfl⟩
  go_wp2_with fail
  refine (CG.out _ (HB0.out _ _)).mono ?_
  rintro e w4 ⟨rfl, hb4⟩
  have HP4 : Hid (BoxAt w4 w.heap.size (.slice ao f.length c0)) := Lib.hid (BoxAt.below ⟨by go_simp, by go_simp⟩ hb4)
  have HR4 : Hid (BoxAt w4 (w.heap.size + 1) (.slice none 0 0)) := Lib.hid (BoxAt.below ⟨by go_simp, by go_simp⟩ hb4)
  have HB4 := Lib.hid (Below.trans (HB0.out _ _) (hb4.mono (by simp; omega)))
  clear hb4 CG CI
  cases rg with
  | false =>
    have hno := tmIn_bad (n := n) HRG.out
    obtain rfl : ok = false := by rw [← hok.out, tmOk_no hno]
    obtain rfl : g = [] := by rw [← hg.out, tmV_no hno]
    have B4 := Lib.hid (HB4.out.setCell (p := ⟨w.heap.size + 1, 0, none⟩) (by show w.heap.size ≤ w.heap.size + 1; omega) (.slice none 0 0))
    obtain ⟨d0, z0⟩ := HR4.out
    have hcr := World.cell?_setCell_same w4 ⟨w.heap.size + 1, 0, none⟩ (.slice none 0 0) d0
    clear hno
    go_wp2_with fail
    exact bodyPost_ret (v := .tuple #[.agg #[.slice none 0 0], .bool false]) (by simp [results, Tryz.results28, go_sem, hcr]) rfl (soPostS_none rfl B4.out)
  | true =>
    have hyes := (tmIn_iff n f).2 ⟨hin, HRG.out⟩
    have HOK : Hid (soOk (tmL n f) = ok) := Lib.hid (by rw [← tmOk_yes hyes]; exact hok.out)
    have HG : Hid (soV (tmL n f) = g) := Lib.hid (by rw [← tmV_yes hyes]; exact hg.out)
    obtain ⟨hf1, hf2, _, _⟩ := (goodB_iff f).1 HRG.out
    obtain ⟨gN, hgN⟩ : ∃ g, negV f = g := ⟨_, rfl⟩
    have C := Lib.hid (l5Neg_calls (.slice ao f.length c0) (f.map downN) w4 lo hi (Nat.le_trans hh HB4.out.size) (by rw [hf2.up.1]; exact HVA.out w4 HB4.out) hf2.up.2.under (by simpa using hf1.1) (by have := hf1.2.1; simp; omega) (downN_small hf1))
    rw [show (formM (swapN (f.map downN))).map upN = gN from by rw [← hgN, negV_yes HRG.out]] at C
    have HGN := Lib.hid hgN
    have HZ4 : Hid (NodesZ w4 0 w4.heap.size (.slice ao f.length c0) f) := Lib.hid ((HVA.out w4 HB4.out).wide (Nat.zero_le _) (Nat.le_trans hh HB4.out.size))
    clear hf1 hf2 hok hg hyes hgN HVA
    obtain ⟨k4, z4⟩ := HP4.out
    go_upto_if 18 with fail
    go_cut [0] (fun s0 wx => ∃ (k : Nat) (aF : Option Addr) (cF : Nat) (F : List Nz), s0 = .int .i64 k ∧ k ≤ 12 ∧ Hid (tmL n f = List.replicate k F) ∧ Hid (BoxAt wx w.heap.size (.slice aF F.length cF)) ∧ Hid (NodesZ wx 0 wx.heap.size (.slice aF F.length cF) F) ∧ Hid (BoxAt wx (w.heap.size + 1) (.slice none 0 0)) ∧ Hid (Below w.heap.size w wx))
    case first =>
      by_cases hn : n < 0
      · have hk : -n = (n.natAbs : Int) := by omega
        have HT := Lib.hid (tmL_neg hn HGN.out hk)
        have hk12 : n.natAbs ≤ 12 := by omega
        clear HG HOK
        go_wp2_with fail
        refine C.out.mono ?_
        rintro e w6 ⟨v, rfl, hn6, hb6⟩
        obtain ⟨a, c, rfl, _⟩ := (show ∃ a c, v = .slice a gN.length c ∧ True from by obtain ⟨a, c, e, _⟩ := hn6; exact ⟨a, c, e, trivial⟩)
        obtain ⟨d6, z6⟩ := HP4.out.below hb6
        have O7 : Only w6 (w6.setCell ⟨w.heap.size, 0, none⟩ (.slice a gN.length c)) (fun b => b = w.heap.size) := Only.of_set (F := fun b => b = w.heap.size) (p := ⟨w.heap.size, 0, none⟩) _ rfl
        have R1 : Hid (BoxAt (w6.setCell ⟨w.heap.size, 0, none⟩ (.slice a gN.length c)) w.heap.size (.slice a gN.length c)) := Lib.hid ⟨World.cell?_setCell_same _ _ _ d6, by rw [World.frozen?_setCell]; exact z6⟩
        have hs4 := HB4.out.size
        have hlt4 := block_of_cell HR4.out.1
        have R2 : Hid (NodesZ (w6.setCell ⟨w.heap.size, 0, none⟩ (.slice a gN.length c)) 0 (w6.setCell ⟨w.heap.size, 0, none⟩ (.slice a gN.length c)).heap.size (.slice a gN.length c) gN) := Lib.hid ((NodesZ.keep hn6 (fun b o h1 h2 => World.cell?_setCell_other _ _ _ _ (fun e => by injection e with e _ _; omega))).wide (Nat.zero_le _) (by simp))
        have R3 := Lib.hid ((HR4.out.below hb6).only O7 (by omega))
        have R4 : Hid (Below w.heap.size w (w6.setCell ⟨w.heap.size, 0, none⟩ (.slice a gN.length c))) := Lib.hid ((HB4.out.trans (hb6.mono HB4.out.size)).setCell (by show w.heap.size ≤ w.heap.size; omega) _)
        clear hn6 hb6 C HP4 HR4 HB4 O7 k4 z4
        go_wp2_with fail
        go_meet
        exact ⟨n.natAbs, a, c, gN, by first | rfl | go_num, hk12, HT, R1, R2, R3, R4⟩
      · have HT := Lib.hid (tmL_pos (f := f) hn (show n = (n.natAbs : Int) by omega))
        have hk12 : n.natAbs ≤ 12 := by omega
        clear HG HOK C
        go_wp2_with fail
        go_meet
        exact ⟨n.natAbs, ao, c0, f, congrArg (Value.int .i64) (by omega), hk12, HT, HP4, HZ4, HR4, HB4⟩
    case rest =>
      obtain ⟨k, aF, cF, F, rfl, hk12, HT, HPX, HZX, HRX, HBX⟩ := hcut
      rw [HT.out] at HOK HG
      clear C HP4 HR4 HB4 k4 z4 HZ4 HGN HT
      have hr0 := World.ownsRow_lit (base := wc.heap.size) (e := 26) (size := 1) wc #[] 0 (Nat.le_refl _) (by unfold maxLen; omega) rfl
      have HRW0 : Hid ((wc.alloc (.cells #[] 26)).ownsRow wc.heap.size 26 1 (.slice (some ⟨wc.heap.size, 0, none⟩) 0 0) 0 (List.replicate 0 (.slice aF F.length cF))) := Lib.hid hr0
      have HBW0 : Hid (Below wc.heap.size wc (wc.alloc (.cells #[] 26))) := Lib.hid ((Below.refl _ _).alloc (Nat.le_refl _) _)
      clear hr0
      go_wp2
      go_loopw [6, 7] (fun q i wr => ∃ (j gb cb : Nat), j ≤ k ∧ i = .int .i64 j ∧ q = .slice (some ⟨gb, 0, none⟩) j cb ∧ Hid (wr.ownsRow wc.heap.size 26 1 (.slice (some ⟨gb, 0, none⟩) j cb) j (List.replicate j (.slice aF F.length cF))) ∧ Hid (Below wc.heap.size wc wr)) (fun _ i _ => k - (intOf i).toNat)
      case atStart => exact ⟨0, wc.heap.size, 0, by omega, rfl, rfl, HRW0, HBW0⟩
      case round =>
        obtain ⟨j, gb, cb, hj, rfl, rfl, hrow, hbw⟩ := hrel
        clear HRW0 HBW0
        by_cases hlt : j < k
        · have kp := (HPX.out.below hbw.out).1
          have hsz := hbw.out.size
          have hown6 := Lib.hid (World.ownsRow.alloc hrow.out (.cells #[.slice aF F.length cF] 26))
          have hal : Below wr.heap.size wr (wr.alloc (.cells #[.slice aF F.length cF] 26)) := (Below.refl _ _).alloc (Nat.le_refl _) _
          have HW6 := Lib.hid (hbw.out.trans (hal.mono hsz))
          have hj0 : (0 : Int) ≤ j := by omega
          have hj1 : (j : Int) < k := by omega
          clear hal hrow
          go_wp2_with (at_builtin; refine wpList_append_own_at _ rfl _ _ 50 rfl wc.heap.size 26 i0 (.agg #[.slice none 0 0]) 1 24 Tryz.underlying50 hi0 hz0 hz1 hz2 rfl (by decide) _ _ _ rfl hown6.out ⟨wr.heap.size, 0, none⟩ 1 1 [.slice aF F.length cF] rfl rfl (cell_one_newF _ _) (by simp [Value.oneCell']) (by unfold maxLen; omega) (by omega) (by simp; omega) ?_; intro v7 w7 hown7 hgrow7 hnil7 hat7)
          have HB7 := Lib.hid (HW6.out.grown hgrow7 HW6.out.size (fun q hq => by
            have e := own_eqp hq
            rcases hown6.out.2 with ⟨h1, _⟩ | ⟨g', c', cs, h1, h2, _⟩
            · cases h1
            · injection h1 with h1 _ _
              injection h1 with h1
              injection h1 with h1 _ _
              omega))
          have hv : ∃ g c', v7 = .slice (some ⟨g, 0, none⟩) (j + 1) c' := by
            rcases hown7.2 with ⟨h1, h0⟩ | ⟨g, c', cs, h1, _⟩
            · omega
            · exact ⟨g, c', h1⟩
          obtain ⟨g7, c7, rfl⟩ := hv
          rw [replicate_snoc] at hown7
          have HO7 := Lib.hid hown7
          clear hown7 hgrow7 hnil7 hat7 hown6 HW6 hbw
          go_wp2
          go_roundw
          case rel => exact ⟨j + 1, g7, c7, by omega, by go_num, rfl, HO7, HB7⟩
          case measure => simp [intOf]; omega
        · have hjk : j = k := by omega
          subst hjk
          have HBr := Lib.hid (HBX.out.trans (hbw.out.mono HBX.out.size))
          have CS := Lib.hid (sumOfS_calls (.slice (some ⟨gb, 0, none⟩) j cb) (List.replicate j F) g ok HOK HG wr 0 wr.heap.size (Nat.le_refl _) (formsZ_same hrow.out ((HZX.out.below hbw.out (Nat.le_refl _)).wide (Nat.le_refl _) hbw.out.size)))
          have HR5 := Lib.hid (HRX.out.below hbw.out)
          clear hrow hbw HPX HZX HRX HOK HG HRG HBX
          go_wp2_with fail
          refine CS.out.mono ?_
          rintro e w9 ⟨a, c, rfl, hn9, hb9⟩
          obtain ⟨d9, z9⟩ := HR5.out.below hb9
          have hs9 := HBr.out.size
          have hlt5 := block_of_cell HR5.out.1
          have HN : Hid (NodesZ (w9.setCell ⟨w.heap.size + 1, 0, none⟩ (.slice a g.length c)) w.heap.size (w9.setCell ⟨w.heap.size + 1, 0, none⟩ (.slice a g.length c)).heap.size (.slice a g.length c) g) := Lib.hid ((NodesZ.keep hn9 (fun b o h1 h2 => World.cell?_setCell_other _ _ _ _ (fun e => by injection e with e _ _; omega))).wide hs9 (by simp))
          have HB9 : Hid (Below w.heap.size w (w9.setCell ⟨w.heap.size + 1, 0, none⟩ (.slice a g.length c))) := Lib.hid ((HBr.out.trans (hb9.mono hs9)).setCell (by show w.heap.size ≤ w.heap.size + 1; omega) _)
          have hcr := World.cell?_setCell_same w9 ⟨w.heap.size + 1, 0, none⟩ (.slice a g.length c) d9
          clear hn9 hb9 CS HR5 HBr
          go_wp2_with fail
          exact bodyPost_ret (v := .tuple #[.agg #[.slice a g.length c], .bool ok]) (by simp [results, Tryz.results28, go_sem, hcr]) rfl ⟨a, c, rfl, HN.out, HB9.out⟩
end

end Go.Proofs.YtabfdaofikccmaaGreat
