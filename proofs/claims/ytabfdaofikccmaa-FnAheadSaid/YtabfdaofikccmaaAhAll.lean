/- Of two games that are not the same one is ahead: mathematics. -/
import Derived.Test.YtabfdaofikccmaaLsAll
import Derived.Test.YtabfdaofikccmaaDrAll
namespace Go.Proofs.Ytabfdaofikccmaa
section
set_option linter.unusedVariables false
set_option linter.unusedSimpArgs false

/-- the nodes ahead of a top that reaches all of them, in order -/
theorem canon_cut {P out : List Nd} {x : Nd} {pl : Nat → Nat} (hu : Under (P ++ [x])) (hx : ∀ k, k < P.length → k ∈ x.1) (h : Canon (P ++ [x]) (bOf (P ++ [x])) (fun _ => True) out pl) : ∃ out', Canon P (bOf P) (fun _ => True) out' pl := by
  have hb := births_bOf _ hu
  have hl : (P ++ [x]).length = P.length + 1 := by simp
  have hn : (P ++ [x])[P.length]? = some x := by simp
  have hlt : ∀ k, k < P.length → pl k < pl P.length := fun k hk => h.born k P.length (by omega) (by omega) trivial trivial (by
    rw [hb P.length x hn]
    exact lastOf_lt _ x k (Or.inl (hx k hk)))
  have hp := h.placed (k := P.length) (by omega) trivial
  have htop : ∀ i, i < out.length → i ≤ pl P.length := fun i hi => by
    obtain ⟨k, hk, _, rfl⟩ := h.from' i hi
    rcases Nat.lt_or_ge k P.length with g | g
    · exact Nat.le_of_lt (hlt k g)
    · rw [show k = P.length by omega]; exact Nat.le_refl _
  have hg : ∀ k, k < P.length → (out.take (pl P.length))[pl k]? = out[pl k]? := fun k hk => by rw [List.getElem?_take, if_pos (hlt k hk)]
  have hbo : ∀ k, k < P.length → bOf P k = bOf (P ++ [x]) k := fun k hk => (bOf_leftL P x k hk).symm
  refine ⟨out.take (pl P.length), ⟨fun k nd hk _ => ?_, fun i hi => ?_, fun k j hk hj _ _ hb' => ?_, fun k j x' y hk hj _ _ hb' h1 h2 hlt' => ?_, fun k j hk hj _ _ he => ?_⟩⟩
  · have hkl := get_lt hk
    rw [hg k hkl]
    exact h.node k nd (by rw [List.getElem?_append_left hkl]; exact hk) trivial
  · rw [List.length_take] at hi
    obtain ⟨k, hk, _, e⟩ := h.from' i (by omega)
    refine ⟨k, ?_, trivial, e⟩
    rcases Nat.lt_or_ge k P.length with g | g
    · exact g
    · have : k = P.length := by omega
      subst this
      omega
  · rw [hbo k hk, hbo j hj] at hb'
    exact h.born k j (by omega) (by omega) trivial trivial hb'
  · rw [hbo k hk, hbo j hj] at hb'
    rw [hg k hk] at h1
    rw [hg j hj] at h2
    exact h.ahead k j x' y (by omega) (by omega) trivial trivial hb' h1 h2 hlt'
  · rw [hg k hk, hg j hj] at he
    exact h.once k j (by omega) (by omega) trivial trivial he

/-- each pile of nodes can be put into order -/
theorem canon_any {P : List Nd} (hu : Under P) : ∃ out pl, Canon P (bOf P) (fun _ => True) out pl := by
  have hu2 : Under (P ++ [(List.range P.length, [])]) := by
    intro k nd hk y hy
    rcases Nat.lt_or_ge k P.length with hlt | hge
    · rw [List.getElem?_append_left hlt] at hk
      exact hu k nd hk y hy
    · rw [List.getElem?_append_right hge] at hk
      have hl := get_lt hk
      simp at hl
      have e : k = P.length := by omega
      subst e
      simp at hk
      subst hk
      simp at hy
      exact hy
  obtain ⟨⟨pl, hc⟩, _⟩ := formM_canon _ hu2 (by simp) (fun k hk => by
    rcases Nat.lt_or_ge k P.length with hlt | hge
    · exact .opt (k := P.length) (nd := (List.range P.length, [])) (by simpa using Reached.root) (by simp) (Or.inl (by simp; exact hlt))
    · have e : k = (P ++ [(List.range P.length, ([] : List Nat))]).length - 1 := by simp at hk ⊢; omega
      rw [e]
      exact .root)
  obtain ⟨out', h⟩ := canon_cut hu2 (fun k hk => by simpa using hk) hc
  exact ⟨out', pl, h⟩

/-- births of nodes behind others -/
theorem bOf_sh (P : List Nd) {f : List Nd} (hP : Under P) (hf : Under f) : ∀ k, k < f.length → bOf (P ++ shD P.length f) (P.length + k) = bOf f k := by
  have hb := births_bOf _ (under_sh hP hf)
  have hbf := births_bOf _ hf
  intro k
  induction k using Nat.strongRecOn with
  | ind k ih =>
    intro hk
    obtain ⟨nd, hnd⟩ := lt_get hk
    have e : (P ++ shD P.length f)[P.length + k]? = some (nd.1.map (· + P.length), nd.2.map (· + P.length)) := by
      rw [List.getElem?_append_right (by omega), show P.length + k - P.length = k by omega]
      exact shD_at hnd
    rw [hb _ _ e, hbf k nd hnd]
    have hx : ∀ x, x ∈ nd.1 ∨ x ∈ nd.2 → bOf (P ++ shD P.length f) (x + P.length) = bOf f x := fun x hx => by
      have h1 := hf k nd hnd x hx
      rw [Nat.add_comm]
      exact ih x h1 (by omega)
    refine Nat.le_antisymm (lastOf_le _ _ _ fun y hy => ?_) (lastOf_le _ _ _ fun y hy => ?_)
    · have : ∃ x, (x ∈ nd.1 ∨ x ∈ nd.2) ∧ x + P.length = y := by
        simp only [List.mem_map] at hy
        rcases hy with ⟨x, h1, h2⟩ | ⟨x, h1, h2⟩
        · exact ⟨x, Or.inl h1, h2⟩
        · exact ⟨x, Or.inr h1, h2⟩
      obtain ⟨x, h1, rfl⟩ := this
      rw [hx x h1]
      exact lastOf_lt _ nd x h1
    · rw [← hx y hy]
      refine lastOf_lt _ _ _ ?_
      simp only [List.mem_map]
      rcases hy with h1 | h1
      · exact Or.inl ⟨y, h1, rfl⟩
      · exact Or.inr ⟨y, h1, rfl⟩

theorem bOf_preL (P Q : List Nd) (k : Nat) (hk : k < P.length) : bOf (P ++ Q) k = bOf P k := by
  unfold bOf
  exact getD_pre (bornsOf_pre P Q) k (by rw [bornsOf_len]; exact hk)

/-- the two games' nodes the other way round -/
theorem canon_turn {A B out : List Nd} {pl : Nat → Nat} (hA : Under A) (hB : Under B) (h : Canon (A ++ shD A.length B) (bOf (A ++ shD A.length B)) (fun _ => True) out pl) :
    Canon (B ++ shD B.length A) (bOf (B ++ shD B.length A)) (fun _ => True) out (fun k => if k < B.length then pl (A.length + k) else pl (k - B.length)) := by
  have l1 : (A ++ shD A.length B).length = A.length + B.length := by rw [List.length_append, shD_len]
  have l2 : (B ++ shD B.length A).length = B.length + A.length := by rw [List.length_append, shD_len]
  -- where a node of the turned pile stood
  have hT : ∀ k, k < B.length + A.length → ∃ t, t < A.length + B.length ∧ (if k < B.length then pl (A.length + k) else pl (k - B.length)) = pl t ∧ bOf (B ++ shD B.length A) k = bOf (A ++ shD A.length B) t := fun k hk => by
    by_cases hlt : k < B.length
    · refine ⟨A.length + k, by omega, by rw [if_pos hlt], ?_⟩
      rw [bOf_preL _ _ _ hlt, bOf_sh A hA hB k hlt]
    · refine ⟨k - B.length, by omega, by rw [if_neg hlt], ?_⟩
      rw [bOf_preL A _ _ (by omega)]
      have := bOf_sh B hB hA (k - B.length) (by omega)
      rw [show B.length + (k - B.length) = k by omega] at this
      exact this
  refine ⟨fun k nd hk _ => ?_, fun i hi => ?_, fun k j hk hj _ _ hb => ?_, fun k j x y hk hj _ _ hb h1 h2 hlt => ?_, fun k j hk hj _ _ he => ?_⟩
  · have hkl := get_lt hk
    rw [l2] at hkl
    by_cases hlt : k < B.length
    · rw [List.getElem?_append_left hlt] at hk
      have e : (A ++ shD A.length B)[A.length + k]? = some (nd.1.map (· + A.length), nd.2.map (· + A.length)) := by
        rw [List.getElem?_append_right (by omega), show A.length + k - A.length = k by omega]
        exact shD_at hk
      rw [if_pos hlt, h.node _ _ e trivial]
      refine congrArg some ?_
      have hx : ∀ x, x ∈ nd.1 ∨ x ∈ nd.2 → pl (x + A.length) = (if x < B.length then pl (A.length + x) else pl (x - B.length)) := fun x hx => by
        have := hB k nd hk x hx
        rw [if_pos (by omega), Nat.add_comm]
      unfold movd
      simp only [List.map_map, Function.comp_def]
      rw [List.map_congr_left (fun x h => hx x (Or.inl h)), List.map_congr_left (fun x h => hx x (Or.inr h))]
    · rw [List.getElem?_append_right (by omega)] at hk
      obtain ⟨x0, hx0, rfl⟩ := shD_get hk
      have hkA := get_lt hx0
      have e : (A ++ shD A.length B)[k - B.length]? = some x0 := by rw [List.getElem?_append_left hkA]; exact hx0
      rw [if_neg hlt, h.node _ _ e trivial]
      refine congrArg some ?_
      have hx : ∀ x, x ∈ x0.1 ∨ x ∈ x0.2 → pl x = (if x + B.length < B.length then pl (A.length + (x + B.length)) else pl (x + B.length - B.length)) := fun x hx => by
        rw [if_neg (by omega), Nat.add_sub_cancel]
      unfold movd
      simp only [List.map_map, Function.comp_def]
      rw [List.map_congr_left (fun x h => hx x (Or.inl h)), List.map_congr_left (fun x h => hx x (Or.inr h))]
  · obtain ⟨t, ht, _, e⟩ := h.from' i hi
    rw [l1] at ht
    by_cases hlt : t < A.length
    · exact ⟨B.length + t, by omega, trivial, by rw [if_neg (by omega), show B.length + t - B.length = t by omega]; exact e⟩
    · exact ⟨t - A.length, by omega, trivial, by rw [if_pos (by omega), show A.length + (t - A.length) = t by omega]; exact e⟩
  · obtain ⟨t, t1, t2, t3⟩ := hT k (by omega)
    obtain ⟨s, s1, s2, s3⟩ := hT j (by omega)
    rw [t3, s3] at hb
    show (if k < B.length then _ else _) < (if j < B.length then _ else _)
    rw [t2, s2]
    exact h.born t s (by omega) (by omega) trivial trivial hb
  · obtain ⟨t, t1, t2, t3⟩ := hT k (by omega)
    obtain ⟨s, s1, s2, s3⟩ := hT j (by omega)
    simp only [t2] at h1
    simp only [s2] at h2
    rw [t3, s3] at hb
    show (if k < B.length then _ else _) < (if j < B.length then _ else _)
    rw [t2, s2]
    exact h.ahead t s x y (by omega) (by omega) trivial trivial hb h1 h2 hlt
  · obtain ⟨t, t1, t2, t3⟩ := hT k (by omega)
    obtain ⟨s, s1, s2, s3⟩ := hT j (by omega)
    simp only [t2, s2] at he
    show (if k < B.length then _ else _) = (if j < B.length then _ else _)
    rw [t2, s2]
    exact h.once t s (by omega) (by omega) trivial trivial he

/-- games at one place are one game -/
theorem place_same {A B out : List Nd} {pl : Nat → Nat} (fA : Fit A) (fB : Fit B) (oA : Ord A) (oB : Ord B) (hc : Canon (A ++ shD A.length B) (bOf (A ++ shD A.length B)) (fun _ => True) out pl) (he : pl (A.length - 1) = pl (A.length + B.length - 1)) : A = B := by
  have pA := fA.pos
  have pB := fB.pos
  have hu := two_under fA.under fB.under
  have hb := births_bOf _ hu
  have hsh : Shut (A ++ shD A.length B) (fun _ => True) := fun _ _ _ _ _ _ => trivial
  have hs := Canon.struct hb hsh hu hc
  have hbo := births_bOf out hs.under
  have hri := Canon.rising hb hsh hu hc hbo
  have hrb : RisingBy out (bOf out) := fun k a b h1 h2 => hri k (k + 1) a b h1 h2 (by omega)
  have PA : partI out (pl (A.length - 1)) = A := part_back (q := pl) oA.struct oA.rise oA.used pA hs hrb fun k nd hk => hc.node k nd (by rw [List.getElem?_append_left (get_lt hk)]; exact hk) trivial
  have PB : partI out (pl (A.length + B.length - 1)) = B := by
    have := part_back (q := fun k => pl (A.length + k)) oB.struct oB.rise oB.used pB hs hrb fun k nd hk => by
      have h1 := hc.node (A.length + k) (nd.1.map (· + A.length), nd.2.map (· + A.length)) (by
        rw [List.getElem?_append_right (by omega), show A.length + k - A.length = k by omega]
        exact shD_at hk) trivial
      rw [h1]
      refine congrArg some ?_
      unfold movd
      simp only [List.map_map, Function.comp_def, Nat.add_comm]
    rw [show A.length + (B.length - 1) = A.length + B.length - 1 by omega] at this
    exact this
  rw [← he, PA] at PB
  exact PB

/-- of two good games one is ahead, if they are not the same -/
theorem less_turn {f g : List Nz} (hf : goodB f = true) (hg : goodB g = true) (hne : f ≠ g) : lessV g f = !lessV f g := by
  have fA := good_fit hf
  have fB := good_fit hg
  have oA := good_ord hf
  have oB := good_ord hg
  have hAB : f.map downN ≠ g.map downN := fun e => hne (by
    rw [← ((goodB_iff f).1 hf).2.1.up.1, ← ((goodB_iff g).1 hg).2.1.up.1, e])
  unfold lessV
  rw [hf, hg]
  generalize f.map downN = A at fA oA hAB
  generalize g.map downN = B at fB oB hAB
  obtain ⟨out, pl, hc⟩ := canon_any (two_under fA.under fB.under)
  have hc2 := canon_turn fA.under fB.under hc
  have pA := fA.pos
  have pB := fB.pos
  have h1 := less_is fA fB oA oB hc
  have h2 := less_is fB fA oB oA hc2
  rw [if_pos (by omega), if_neg (by omega), show A.length + (B.length - 1) = A.length + B.length - 1 by omega, show B.length + A.length - 1 - B.length = A.length - 1 by omega] at h2
  have hd : pl (A.length - 1) ≠ pl (A.length + B.length - 1) := fun e => hAB (place_same fA fB oA oB hc e)
  simp only [Bool.and_self, Bool.true_and, h1, h2]
  by_cases hlt : pl (A.length - 1) < pl (A.length + B.length - 1)
  · rw [decide_eq_true hlt, decide_eq_false (by omega)]; rfl
  · rw [decide_eq_false hlt, decide_eq_true (by omega)]; rfl

theorem less_self (f : List Nz) : lessV f f = false := by
  unfold lessV lessD
  simp
end

section
open Go.RowKit
set_option linter.unusedVariables false
set_option linter.unusedSimpArgs false

/-- what a draw of two hands back -/
def DrawTwo (w : World) (e : Ending) (w' : World) : Prop := ∃ (a : Option Addr) (c : Nat) (f : List Nz) (a' : Option Addr) (c' : Nat) (f' : List Nz), e = .returned (.tuple #[.agg #[.slice a f.length c], .agg #[.slice a' f'.length c']]) ∧ NodesZ w' w.heap.size w'.heap.size (.slice a f.length c) f ∧ NodesZ w' w.heap.size w'.heap.size (.slice a' f'.length c') f' ∧ Below w.heap.size w w'

set_option maxRecDepth 100000 in
set_option maxHeartbeats 4000000 in
theorem drawSame_calls (ao : Option Addr) (n cc : Nat) (w : World) (hc : CodeIn w (.slice ao n cc) n) (hn : n ≤ 1000000) :
    Calls Try.prog 54 #[.slice ao n cc] w (DrawTwo w) := by
  have z0 : ((w.alloc (.cells #[.slice none 0 0] 28)).alloc (.cells #[.slice none 0 0] 28)).heap.size = w.heap.size + 2 := by simp
  have b0 : Below w.heap.size w ((w.alloc (.cells #[.slice none 0 0] 28)).alloc (.cells #[.slice none 0 0] 28)) := ((Below.refl _ _).alloc (Nat.le_refl _) _).alloc (by simp) _
  have x0 : BoxAt ((w.alloc (.cells #[.slice none 0 0] 28)).alloc (.cells #[.slice none 0 0] 28)) w.heap.size (.slice none 0 0) := (BoxAt.below (w := w.alloc (.cells #[.slice none 0 0] 28)) ⟨by go_simp, by go_simp⟩ ((Below.refl _ _).alloc (Nat.le_refl _) _))
  have x1 : BoxAt ((w.alloc (.cells #[.slice none 0 0] 28)).alloc (.cells #[.slice none 0 0] 28)) (w.heap.size + 1) (.slice none 0 0) := by
    have h : (w.alloc (.cells #[.slice none 0 0] 28)).heap.size = w.heap.size + 1 := by simp
    rw [← h]
    exact ⟨by go_simp, by go_simp⟩
  have hc0 := hc.below b0
  have B0 := Lib.hid b0
  have X0 := Lib.hid x0
  have X1 := Lib.hid x1
  clear hc b0 x0 x1
  go_enter Try.func54, Try.ntmps54
  go_upto_region 1 with fail
  generalize ((w.alloc (.cells #[.slice none 0 0] 28)).alloc (.cells #[.slice none 0 0] 28)) = w0 at z0 hc0 B0 X0 X1 ⊢
  have hbq : Below w0.heap.size w0 (w0.alloc (.cells #[.slice ao n cc, .int .i64 0, .int .u64 0] 52)) := (Below.refl _ _).alloc (Nat.le_refl _) _
  have hzq : (w0.alloc (.cells #[.slice ao n cc, .int .i64 0, .int .u64 0] 52)).heap.size = w0.heap.size + 1 := by simp
  have CA := Lib.hid fun (W : World) (N : Nat) (hN : N ≤ 1000) (h : Cur w0 W (w.heap.size + 2) (.slice ao n cc) N) => any_draw w0 W (w.heap.size + 2) n N (.slice ao n cc) hc0 hn h 2 (by omega) (by omega)
  have CO := Lib.hid fun (W : World) (N : Nat) (hN : N ≤ 1000) (h : Cur w0 W (w.heap.size + 2) (.slice ao n cc) N) => one_calls w0 W (w.heap.size + 2) n N 2 (.slice ao n cc) hc0 hn h (by omega) (by omega) (by omega)
  have HC1 : Hid (Cur w0 (w0.alloc (.cells #[.slice ao n cc, .int .i64 0, .int .u64 0] 52)) (w.heap.size + 2) (.slice ao n cc) 0) := Lib.hid (by rw [← z0]; exact cur_new _ _)
  have C := Lib.hid (CA.out _ 0 (by omega) HC1.out)
  have X0 := Lib.hid (X0.out.below hbq)
  have X1 := Lib.hid (X1.out.below hbq)
  have B1 := Lib.hid (B0.out.trans (hbq.mono (by omega)))
  clear hc0 hbq B0 HC1
  go_upto_region 2 with fail
  generalize (w0.alloc (.cells #[.slice ao n cc, .int .i64 0, .int .u64 0] 52)) = wq at hzq X0 X1 B1 C ⊢
  go_wp2_with fail
  refine C.out.mono ?_
  rintro e w1 ⟨a, c, f, rfl, hz, hl, hC1, ho⟩
  have x0 := X0.out.only ho (by omega)
  have x1 := X1.out.only ho (by omega)
  have b1 := B1.out.trans (ho.below (base := w.heap.size) (by omega) (fun g e => by omega))
  have s1 := ho.size
  rw [hzq] at s1 hz
  have hal : Below w1.heap.size w1 (w1.alloc (.cells #[.slice a f.length c] 28)) := (Below.refl _ _).alloc (Nat.le_refl _) _
  have k5 : (w1.alloc (.cells #[.slice a f.length c] 28)).cell? ⟨w1.heap.size, 0, none⟩ = some (.slice a f.length c) := by go_simp
  have hz2 := hz.below hal (Nat.le_refl _)
  have hB5 : w1.heap.size < (w1.alloc (.cells #[.slice a f.length c] 28)).heap.size := by simp
  have X0 := Lib.hid (x0.below hal)
  have X1 := Lib.hid (x1.below hal)
  have B2 := Lib.hid (b1.trans (hal.mono (by omega)))
  have HC2 := Lib.hid (hC1.below hal)
  have HN := Lib.hid hz2
  clear hz hC1 ho x0 x1 b1 hal hz2 C hzq B1
  go_upto_region 3 with fail
  generalize (w1.alloc (.cells #[.slice a f.length c] 28)) = w2 at k5 hB5 X0 X1 B2 HC2 HN ⊢
  generalize w1.heap.size = B5 at k5 hB5 s1 HN ⊢
  go_wp2_with fail
  refine (CO.out _ _ (by omega) HC2.out).mono ?_
  rintro e w3 ⟨⟨yes, rfl⟩, hC3, hg3⟩
  have o3 := only_cur hg3
  have s3 := o3.size
  replace k5 := (o3.cell (by omega) (by omega)).trans k5
  replace X0 := Lib.hid (X0.out.only o3 (by omega))
  replace X1 := Lib.hid (X1.out.only o3 (by omega))
  have hlw2 := B2.out.size
  replace B2 := Lib.hid (B2.out.trans (o3.below (base := w.heap.size) (by omega) (fun g e => by omega)))
  replace HC2 := Lib.hid hC3
  replace HN := Lib.hid (HN.out.keep (fun b o h1 h2 => o3.cell (by omega) (by omega)))
  replace hB5 : B5 < w3.heap.size := by omega
  clear o3 hC3 hg3 CO hlw2
  have hbd : Below w3.heap.size w3 w3.drew := below_drewN (Below.refl _ _) 1
  have HSW := Lib.hid fun (W : World) (h : Only w3 W (fun b => b = w.heap.size + 2 ∨ b = w.heap.size ∨ b = w.heap.size + 1)) => show W.cell? ⟨B5, 0, none⟩ = some (.slice a f.length c) ∧ Only w3 W (fun b => b = w.heap.size + 2 ∨ b = w.heap.size ∨ b = w.heap.size + 1) from ⟨(h.cell (by omega) (by omega)).trans k5, h⟩
  have hS0 := HSW.out _ (Only.of_below hbd)
  have HFIN := Lib.hid fun (W wb : World) (a2 : Option Addr) (c2 : Nat) (f2 : List Nz) (hS : Only w3 W (fun b => b = w.heap.size + 2 ∨ b = w.heap.size ∨ b = w.heap.size + 1)) (hs : w3.heap.size ≤ wb.heap.size) (h2 : NodesZ wb w3.heap.size wb.heap.size (.slice a2 f2.length c2) f2) (hw : Only wb W (fun b => b = w.heap.size ∨ b = w.heap.size + 1)) => show DrawTwo w (.returned (.tuple #[.agg #[.slice a f.length c], .agg #[.slice a2 f2.length c2]])) W from by
    have e1 := hS.size
    have e2 := hw.size
    have e3 := B2.out.size
    exact ⟨a, c, f, a2, c2, f2, rfl, (HN.out.keep (fun b o h1 h2 => hS.cell (by omega) (by omega))).wide (by omega) (by omega), (h2.keep (fun b o h1 h2 => hw.cell h2 (by omega))).wide (by omega) (by omega), B2.out.trans (hS.below (by omega) (fun g e => by omega))⟩
  have HX := Lib.hid fun (W : World) (h : Only w3 W (fun b => b = w.heap.size + 2)) => show BoxAt W w.heap.size (.slice none 0 0) ∧ BoxAt W (w.heap.size + 1) (.slice none 0 0) from ⟨X0.out.only h (by omega), X1.out.only h (by omega)⟩
  have hXd := HX.out _ (Only.of_below hbd)
  obtain ⟨⟨xd0, xf0⟩, xd1, xf1⟩ := hXd
  have cd := HC2.out.below hbd
  have hlw := B2.out.size
  cases yes with
  | false =>
    go_wp2_with fail
    refine wp_region_held_drew (S := (fun W : World => W.cell? ⟨B5, 0, none⟩ = some (.slice a f.length c) ∧ Only w3 W (fun b => b = w.heap.size + 2 ∨ b = w.heap.size ∨ b = w.heap.size + 1))) (by kernel_rfl) hS0 (fun hHeld => ?_)

    refine wpAnyH_take (i := 0) (v := ?_) rfl (by kernel_rfl) (by kernel_rfl) (by kernel_rfl) (fun _ _ _ h => h) (Or.inl ⟨by rfl, ?_⟩) hHeld ?_
    rotate_left
    · intro W hW
      obtain ⟨z1, z2⟩ := hW
      first | (go_simp; done) | (go_simp; with_reducible rfl)
    try simp only [List.getElem_toArray, List.getElem_cons_succ, List.getElem_cons_zero, Act.put, List.setIfInBounds_toArray, List.set_cons_zero, List.set_cons_succ]
    refine wpAnyH_take (i := 1) (v := ?_) rfl (by kernel_rfl) (by kernel_rfl) (by kernel_rfl) (fun _ _ _ h => h) (Or.inl ⟨by rfl, ?_⟩) hHeld ?_
    rotate_left
    · intro W hW
      obtain ⟨z1, z2⟩ := hW
      first | (go_simp; done) | (go_simp; with_reducible rfl)
    try simp only [List.getElem_toArray, List.getElem_cons_succ, List.getElem_cons_zero, Act.put, List.setIfInBounds_toArray, List.set_cons_zero, List.set_cons_succ]
    refine wpAnyH_ready (rs := [2]) (by kernel_rfl) (by simp) ?_
    refine AllReadyH.cons rfl (fun K hK => ?_) AllReadyH.nil
    go_simp
    go_at_call 30
    refine (CA.out _ _ (by omega) cd).mono ?_
    rintro e wb ⟨a2, c2, f2, rfl, hz2, hl2, _, hob⟩
    have hwb : Only w3 wb (fun b => b = w.heap.size + 2 ∨ b = w.heap.size ∨ b = w.heap.size + 1) := (Only.of_below hbd).trans hob (fun _ _ h => Or.inl h)
    have hsb := hwb.size
    have hz3 : NodesZ wb w3.heap.size wb.heap.size (.slice a2 f2.length c2) f2 := hz2.wide (by have := hbd.size; omega) (Nat.le_refl _)
    have y0c := (BoxAt.only (F := fun b => b = w.heap.size + 2) (v := .slice none 0 0) ⟨xd0, xf0⟩ hob (by omega)).1
    have y0g := (BoxAt.only (F := fun b => b = w.heap.size + 2) (v := .slice none 0 0) ⟨xd0, xf0⟩ hob (by omega)).2
    have y1c := (BoxAt.only (F := fun b => b = w.heap.size + 2) (v := .slice none 0 0) ⟨xd1, xf1⟩ hob (by omega)).1
    have y1g := (BoxAt.only (F := fun b => b = w.heap.size + 2) (v := .slice none 0 0) ⟨xd1, xf1⟩ hob (by omega)).2
    have HZ3 := Lib.hid hz3
    clear hz2 hz3 hob
    go_wp2_with fail
    have hSb := HSW.out _ hwb
    refine hK.out _ _ (hSb) (fun hHb => ?_)
    clear hK K
    try simp only [List.getElem_toArray, List.getElem_cons_succ, List.getElem_cons_zero, Act.put, List.setIfInBounds_toArray, List.set_cons_zero, List.set_cons_succ]
    refine wpAnyH_ready (rs := [3]) (by kernel_rfl) (by simp) ?_
    refine AllReadyH.cons rfl (fun K hK => ?_) AllReadyH.nil
    go_simp
    have hn1 : Only wb (wb.setCell ⟨w.heap.size, 0, none⟩ (.slice a f.length c)) (fun b => b = w.heap.size ∨ b = w.heap.size + 1) := (Only.of_set (w := wb) (p := ⟨w.heap.size, 0, none⟩) (F := fun b => b = w.heap.size ∨ b = w.heap.size + 1) (.slice a f.length c) (by first | exact Or.inl rfl | exact Or.inr rfl))
    have hd : (wb.setCell ⟨w.heap.size, 0, none⟩ (.slice a f.length c)).cell? ⟨w.heap.size + 1, 0, none⟩ = some (.slice none 0 0) := (World.cell?_setCell_other _ _ _ _ (by simp)).trans y1c
    have hf : (wb.setCell ⟨w.heap.size, 0, none⟩ (.slice a f.length c)).frozen? ⟨w.heap.size + 1, 0, none⟩ = false := by rw [World.frozen?_setCell]; exact y1g
    refine hK.out _ _ (HSW.out _ (hwb.trans hn1 (fun _ _ h => Or.inr h))) (fun hHc => ?_)
    clear hK K
    try simp only [List.getElem_toArray, List.getElem_cons_succ, List.getElem_cons_zero, Act.put, List.setIfInBounds_toArray, List.set_cons_zero, List.set_cons_succ]
    refine wpAnyH_ready (rs := [4]) (by kernel_rfl) (by simp) ?_
    refine AllReadyH.cons rfl (fun K hK => ?_) AllReadyH.nil
    go_simp
    have hn2 : Only wb ((wb.setCell ⟨w.heap.size, 0, none⟩ (.slice a f.length c)).setCell ⟨w.heap.size + 1, 0, none⟩ (.slice a2 f2.length c2)) (fun b => b = w.heap.size ∨ b = w.heap.size + 1) := hn1.trans (Only.of_set (w := (wb.setCell ⟨w.heap.size, 0, none⟩ (.slice a f.length c))) (p := ⟨w.heap.size + 1, 0, none⟩) (F := fun b => b = w.heap.size ∨ b = w.heap.size + 1) (.slice a2 f2.length c2) (by first | exact Or.inl rfl | exact Or.inr rfl)) (fun _ _ h => h)
    refine hK.out _ _ (HSW.out _ (hwb.trans hn2 (fun _ _ h => Or.inr h))) (fun hHd => ?_)
    clear hK K
    try simp only [List.getElem_toArray, List.getElem_cons_succ, List.getElem_cons_zero, Act.put, List.setIfInBounds_toArray, List.set_cons_zero, List.set_cons_succ]
    refine wpAnyH_done (by kernel_rfl) ?_ _
    have hw3 : Only wb ((wb.setCell ⟨w.heap.size, 0, none⟩ (.slice a f.length c)).setCell ⟨w.heap.size + 1, 0, none⟩ (.slice a2 f2.length c2)) (fun b => b = w.heap.size ∨ b = w.heap.size + 1) := hn2
    have hE := HFIN.out ((wb.setCell ⟨w.heap.size, 0, none⟩ (.slice a f.length c)).setCell ⟨w.heap.size + 1, 0, none⟩ (.slice a2 f2.length c2)) wb a2 c2 f2 (hwb.trans hw3 (fun _ _ h => Or.inr h)) hsb HZ3.out hw3
    have HE := Lib.hid hE
    have r0 : ((wb.setCell ⟨w.heap.size, 0, none⟩ (.slice a f.length c)).setCell ⟨w.heap.size + 1, 0, none⟩ (.slice a2 f2.length c2)).cell? ⟨w.heap.size, 0, none⟩ = some (.slice a f.length c) := (World.cell?_setCell_other _ _ _ _ (by simp)).trans (World.cell?_setCell_same _ _ _ y0c)
    have r1 : ((wb.setCell ⟨w.heap.size, 0, none⟩ (.slice a f.length c)).setCell ⟨w.heap.size + 1, 0, none⟩ (.slice a2 f2.length c2)).cell? ⟨w.heap.size + 1, 0, none⟩ = some (.slice a2 f2.length c2) := World.cell?_setCell_same _ _ _ hd
    generalize ((wb.setCell ⟨w.heap.size, 0, none⟩ (.slice a f.length c)).setCell ⟨w.heap.size + 1, 0, none⟩ (.slice a2 f2.length c2)) = wz at r0 r1 HE ⊢
    clear hw3 hE HFIN HSW CA
    go_wp2_with fail
    exact bodyPost_ret (v := .tuple #[.agg #[.slice a f.length c], .agg #[.slice a2 f2.length c2]]) (by simp [results, Try.results54, go_sem, r0, r1]) rfl HE.out
  | true =>
    obtain ⟨xw0, xg0⟩ := X0.out
    obtain ⟨xw1, xg1⟩ := X1.out
    have hn1 : Only w3.drew (w3.drew.setCell ⟨w.heap.size, 0, none⟩ (.slice a f.length c)) (fun b => b = w.heap.size ∨ b = w.heap.size + 1) := (Only.of_set (w := w3.drew) (p := ⟨w.heap.size, 0, none⟩) (F := fun b => b = w.heap.size ∨ b = w.heap.size + 1) (.slice a f.length c) (Or.inl rfl))
    have hd : (w3.drew.setCell ⟨w.heap.size, 0, none⟩ (.slice a f.length c)).cell? ⟨w.heap.size + 1, 0, none⟩ = some (.slice none 0 0) := (World.cell?_setCell_other _ _ _ _ (by simp)).trans xd1
    have hf : (w3.drew.setCell ⟨w.heap.size, 0, none⟩ (.slice a f.length c)).frozen? ⟨w.heap.size + 1, 0, none⟩ = false := by rw [World.frozen?_setCell]; exact xf1
    have hn2 : Only w3.drew ((w3.drew.setCell ⟨w.heap.size, 0, none⟩ (.slice a f.length c)).setCell ⟨w.heap.size + 1, 0, none⟩ (.slice a f.length c)) (fun b => b = w.heap.size ∨ b = w.heap.size + 1) := hn1.trans (Only.of_set (w := (w3.drew.setCell ⟨w.heap.size, 0, none⟩ (.slice a f.length c))) (p := ⟨w.heap.size + 1, 0, none⟩) (F := fun b => b = w.heap.size ∨ b = w.heap.size + 1) (.slice a f.length c) (Or.inr rfl)) (fun _ _ h => h)
    have o31 : Only w3 (w3.drew.setCell ⟨w.heap.size, 0, none⟩ (.slice a f.length c)) (fun b => b = w.heap.size + 2 ∨ b = w.heap.size ∨ b = w.heap.size + 1) := (Only.of_below hbd).trans hn1 (fun _ _ h => Or.inr h)
    have o32 : Only w3 ((w3.drew.setCell ⟨w.heap.size, 0, none⟩ (.slice a f.length c)).setCell ⟨w.heap.size + 1, 0, none⟩ (.slice a f.length c)) (fun b => b = w.heap.size + 2 ∨ b = w.heap.size ∨ b = w.heap.size + 1) := (Only.of_below hbd).trans hn2 (fun _ _ h => Or.inr h)
    have s32 := o32.size
    have r0 : ((w3.drew.setCell ⟨w.heap.size, 0, none⟩ (.slice a f.length c)).setCell ⟨w.heap.size + 1, 0, none⟩ (.slice a f.length c)).cell? ⟨w.heap.size, 0, none⟩ = some (.slice a f.length c) := (World.cell?_setCell_other _ _ _ _ (by simp)).trans (World.cell?_setCell_same _ _ _ xd0)
    have r1 : ((w3.drew.setCell ⟨w.heap.size, 0, none⟩ (.slice a f.length c)).setCell ⟨w.heap.size + 1, 0, none⟩ (.slice a f.length c)).cell? ⟨w.heap.size + 1, 0, none⟩ = some (.slice a f.length c) := World.cell?_setCell_same _ _ _ hd
    have HE : Hid (DrawTwo w (.returned (.tuple #[.agg #[.slice a f.length c], .agg #[.slice a f.length c]])) ((w3.drew.setCell ⟨w.heap.size, 0, none⟩ (.slice a f.length c)).setCell ⟨w.heap.size + 1, 0, none⟩ (.slice a f.length c))) := Lib.hid (by
      have hnn := (HN.out.keep (fun b o h1 h2 => o32.cell (by omega) (by omega))).wide (lo' := w.heap.size) (by omega) (hi' := ((w3.drew.setCell ⟨w.heap.size, 0, none⟩ (.slice a f.length c)).setCell ⟨w.heap.size + 1, 0, none⟩ (.slice a f.length c)).heap.size) (by omega)
      exact ⟨a, c, f, a, c, f, rfl, hnn, hnn, B2.out.trans (o32.below (by omega) (fun g e => by omega))⟩)
    clear HFIN HX CA
    go_wp2_with fail
    refine wp_region_held_drew (S := (fun W : World => W.cell? ⟨B5, 0, none⟩ = some (.slice a f.length c) ∧ Only w3 W (fun b => b = w.heap.size + 2 ∨ b = w.heap.size ∨ b = w.heap.size + 1))) (by kernel_rfl) hS0 (fun hHeld => ?_)
    refine wpAnyH_take (i := 0) (v := ?_) rfl (by kernel_rfl) (by kernel_rfl) (by kernel_rfl) (fun _ _ _ h => h) (Or.inl ⟨by rfl, ?_⟩) hHeld ?_
    rotate_left
    · intro W hW
      obtain ⟨z1, z2⟩ := hW
      first | (go_simp; done) | (go_simp; with_reducible rfl)
    try simp only [List.getElem_toArray, List.getElem_cons_succ, List.getElem_cons_zero, Act.put, List.setIfInBounds_toArray, List.set_cons_zero, List.set_cons_succ]
    refine wpAnyH_take (i := 1) (v := ?_) rfl (by kernel_rfl) (by kernel_rfl) (by kernel_rfl) (fun _ _ _ h => h) (Or.inl ⟨by rfl, ?_⟩) hHeld ?_
    rotate_left
    · intro W hW
      obtain ⟨z1, z2⟩ := hW
      first | (go_simp; done) | (go_simp; with_reducible rfl)
    try simp only [List.getElem_toArray, List.getElem_cons_succ, List.getElem_cons_zero, Act.put, List.setIfInBounds_toArray, List.set_cons_zero, List.set_cons_succ]
    refine wpAnyH_ready (rs := [2]) (by kernel_rfl) (by simp) ?_
    refine AllReadyH.cons rfl (fun K hK => ?_) AllReadyH.nil
    go_simp
    refine hK.out _ _ (HSW.out _ o31) (fun hHx2 => ?_)
    clear hK K
    try simp only [List.getElem_toArray, List.getElem_cons_succ, List.getElem_cons_zero, Act.put, List.setIfInBounds_toArray, List.set_cons_zero, List.set_cons_succ]
    refine wpAnyH_ready (rs := [3]) (by kernel_rfl) (by simp) ?_
    refine AllReadyH.cons rfl (fun K hK => ?_) AllReadyH.nil
    go_simp
    refine hK.out _ _ (HSW.out _ o32) (fun hHx3 => ?_)
    clear hK K
    try simp only [List.getElem_toArray, List.getElem_cons_succ, List.getElem_cons_zero, Act.put, List.setIfInBounds_toArray, List.set_cons_zero, List.set_cons_succ]
    refine wpAnyH_done (by kernel_rfl) ?_ _
    have r2 : ((w3.setCell ⟨w.heap.size, 0, none⟩ (.slice a f.length c)).setCell ⟨w.heap.size + 1, 0, none⟩ (.slice a f.length c)).drew.cell? ⟨w.heap.size, 0, none⟩ = some (.slice a f.length c) := r0
    have r3 : ((w3.setCell ⟨w.heap.size, 0, none⟩ (.slice a f.length c)).setCell ⟨w.heap.size + 1, 0, none⟩ (.slice a f.length c)).drew.cell? ⟨w.heap.size + 1, 0, none⟩ = some (.slice a f.length c) := r1
    have HE2 : Hid (DrawTwo w (.returned (.tuple #[.agg #[.slice a f.length c], .agg #[.slice a f.length c]])) ((w3.setCell ⟨w.heap.size, 0, none⟩ (.slice a f.length c)).setCell ⟨w.heap.size + 1, 0, none⟩ (.slice a f.length c)).drew) := HE
    clear r0 r1 HE
    generalize ((w3.setCell ⟨w.heap.size, 0, none⟩ (.slice a f.length c)).setCell ⟨w.heap.size + 1, 0, none⟩ (.slice a f.length c)).drew = wz at r2 r3 HE2 ⊢
    clear hn1 hn2 o31 o32 HSW hd hf
    go_wp2_with fail
    exact bodyPost_ret (v := .tuple #[.agg #[.slice a f.length c], .agg #[.slice a f.length c]]) (by simp [results, Try.results54, go_sem, r2, r3]) rfl HE2.out

set_option maxHeartbeats 4000000 in
theorem drawLess_calls (ao : Option Addr) (n cc : Nat) (w : World) (hc : CodeIn w (.slice ao n cc) n) (hn : n ≤ 1000000) :
    Calls Try.prog 24 #[.slice ao n cc] w (DrawTwo w) := by
  have z0 : ((w.alloc (.cells #[.slice none 0 0] 28)).alloc (.cells #[.slice none 0 0] 28)).heap.size = w.heap.size + 2 := by simp
  have b0 : Below w.heap.size w ((w.alloc (.cells #[.slice none 0 0] 28)).alloc (.cells #[.slice none 0 0] 28)) := ((Below.refl _ _).alloc (Nat.le_refl _) _).alloc (by simp) _
  have x0 : BoxAt ((w.alloc (.cells #[.slice none 0 0] 28)).alloc (.cells #[.slice none 0 0] 28)) w.heap.size (.slice none 0 0) := (BoxAt.below (w := w.alloc (.cells #[.slice none 0 0] 28)) ⟨by go_simp, by go_simp⟩ ((Below.refl _ _).alloc (Nat.le_refl _) _))
  have x1 : BoxAt ((w.alloc (.cells #[.slice none 0 0] 28)).alloc (.cells #[.slice none 0 0] 28)) (w.heap.size + 1) (.slice none 0 0) := by
    have h : (w.alloc (.cells #[.slice none 0 0] 28)).heap.size = w.heap.size + 1 := by simp
    rw [← h]
    exact ⟨by go_simp, by go_simp⟩
  have C := Lib.hid (drawSame_calls ao n cc _ (hc.below b0) hn)
  have B0 := Lib.hid b0
  have X0 := Lib.hid x0
  have X1 := Lib.hid x1
  clear hc b0 x0 x1 hn
  go_enter Try.func24, Try.ntmps24
  go_upto_region 1 with fail
  generalize ((w.alloc (.cells #[.slice none 0 0] 28)).alloc (.cells #[.slice none 0 0] 28)) = w0 at z0 B0 X0 X1 C ⊢
  go_wp2_with fail
  refine C.out.mono ?_
  rintro e wc ⟨a, c, f, a2, c2, f2, rfl, hza, hzc, hbc⟩
  obtain ⟨y0c, y0g⟩ := X0.out.below hbc
  obtain ⟨y1c, y1g⟩ := X1.out.below hbc
  have sc := hbc.size
  have hn1 : Only wc (wc.setCell ⟨w.heap.size, 0, none⟩ (.slice a f.length c)) (fun b => b = w.heap.size ∨ b = w.heap.size + 1) := (Only.of_set (w := wc) (p := ⟨w.heap.size, 0, none⟩) (F := fun b => b = w.heap.size ∨ b = w.heap.size + 1) (.slice a f.length c) (Or.inl rfl))
  have hd : (wc.setCell ⟨w.heap.size, 0, none⟩ (.slice a f.length c)).cell? ⟨w.heap.size + 1, 0, none⟩ = some (.slice none 0 0) := (World.cell?_setCell_other _ _ _ _ (by simp)).trans y1c
  have hf : (wc.setCell ⟨w.heap.size, 0, none⟩ (.slice a f.length c)).frozen? ⟨w.heap.size + 1, 0, none⟩ = false := by rw [World.frozen?_setCell]; exact y1g
  have hn2 : Only wc ((wc.setCell ⟨w.heap.size, 0, none⟩ (.slice a f.length c)).setCell ⟨w.heap.size + 1, 0, none⟩ (.slice a2 f2.length c2)) (fun b => b = w.heap.size ∨ b = w.heap.size + 1) := hn1.trans (Only.of_set (w := (wc.setCell ⟨w.heap.size, 0, none⟩ (.slice a f.length c))) (p := ⟨w.heap.size + 1, 0, none⟩) (F := fun b => b = w.heap.size ∨ b = w.heap.size + 1) (.slice a2 f2.length c2) (Or.inr rfl)) (fun _ _ h => h)
  have s2 := hn2.size
  have HE : Hid (DrawTwo w (.returned (.tuple #[.agg #[.slice a f.length c], .agg #[.slice a2 f2.length c2]])) ((wc.setCell ⟨w.heap.size, 0, none⟩ (.slice a f.length c)).setCell ⟨w.heap.size + 1, 0, none⟩ (.slice a2 f2.length c2))) := Lib.hid (by
    refine ⟨a, c, f, a2, c2, f2, rfl, ?_, ?_, ?_⟩
    · exact (hza.keep (fun b o h1 h2 => hn2.cell h2 (by omega))).wide (by omega) s2
    · exact (hzc.keep (fun b o h1 h2 => hn2.cell h2 (by omega))).wide (by omega) s2
    · exact (B0.out.trans (hbc.mono (by omega))).trans (hn2.below (by omega) (fun g e => by omega)))
  have r0 : ((wc.setCell ⟨w.heap.size, 0, none⟩ (.slice a f.length c)).setCell ⟨w.heap.size + 1, 0, none⟩ (.slice a2 f2.length c2)).cell? ⟨w.heap.size, 0, none⟩ = some (.slice a f.length c) := (World.cell?_setCell_other _ _ _ _ (by simp)).trans (World.cell?_setCell_same _ _ _ y0c)
  have r1 : ((wc.setCell ⟨w.heap.size, 0, none⟩ (.slice a f.length c)).setCell ⟨w.heap.size + 1, 0, none⟩ (.slice a2 f2.length c2)).cell? ⟨w.heap.size + 1, 0, none⟩ = some (.slice a2 f2.length c2) := World.cell?_setCell_same _ _ _ hd
  clear hn1 hn2 hza hzc hbc X0 X1 B0 C
  go_wp2_with fail
  exact bodyPost_ret (v := .tuple #[.agg #[.slice a f.length c], .agg #[.slice a2 f2.length c2]]) (by simp [results, Try.results24, go_sem, r0, r1]) rfl HE.out
end

end Go.Proofs.Ytabfdaofikccmaa
