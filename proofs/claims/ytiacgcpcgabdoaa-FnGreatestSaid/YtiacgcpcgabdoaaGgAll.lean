/- At least: of oneself, and over a third. -/
import Derived.Test.YtiacgcpcgabdoaaOrMath
import Derived.Test.YtiacgcpcgabdoaaFmFits
import Derived.Test.YtiacgcpcgabdoaaFmLaw
import Derived.Test.YtiacgcpcgabdoaaFmGoodI
import Derived.Test.YtiacgcpcgabdoaaFmFs
import Derived.Test.YtiacgcpcgabdoaaOrL4
import Derived.Test.YtiacgcpcgabdoaaFmOwn
import Derived.Deep.RegionLaw
import Derived.Test.YtiacgcpcgabdoaaOrTab
import Derived.Test.YtiacgcpcgabdoaaFmBk
import Derived.IntWalk
import Derived.StillTailTactics
import Derived.Test.YtiacgcpcgabdoaaFmTo
import Derived.Lib.AppendZerosOnto
import Derived.Lib.SliceRun
import Derived.Deep.WholeRow
import Derived.Lib.Walk
import Derived.Test.YtiacgcpcgabdoaaFmSet
import Derived.Test.YtiacgcpcgabdoaaShelf
import Derived.Test.YtiacgcpcgabdoaaFmGood
import Derived.Test.YtiacgcpcgabdoaaFmPart
import Derived.Test.YtiacgcpcgabdoaaFmMarkN
import Derived.Test.YtiacgcpcgabdoaaFmFormP
import Derived.Test.YtiacgcpcgabdoaaFmAt
import Derived.Test.YtiacgcpcgabdoaaFmPartL
import Derived.Deep.DeepCutAuto
import Derived.Deep.LoopGhost
import Derived.Deep.RegionHeld3
namespace Go.Proofs.Ytiacgcpcgabdoaa
section
set_option linter.unusedVariables false
set_option linter.unusedSimpArgs false

/-- at least: Right, moving first, does not win the difference -/
def geW (A B : List Nd) (i j : Nat) : Bool := !winF A B i j false

theorem winF_turn (A B : List Nd) (hA : Under A) (hB : Under B) : ∀ n i j, i + j < n → ∀ l, winF A B i j l = winF B A j i (!l) := by
  intro n
  induction n with
  | zero => intro i j h; omega
  | succ n ih =>
    intro i j h l
    rw [winF_eq A B hA hB, winF_eq B A hB hA]
    rw [Bool.or_comm, Bool.not_not]
    congr 1
    · exact any_congr _ _ _ fun o ho => by
        have := optsD_lt hB ho
        rw [ih i o (by omega), Bool.not_not]
    · exact any_congr _ _ _ fun o ho => by
        have := optsD_lt hA ho
        rw [ih o j (by omega), Bool.not_not]

theorem ge_step {A B : List Nd} (hA : Under A) (hB : Under B) (i j : Nat) : geW A B i j = true ↔ (∀ r ∈ optsD A i false, geW B A j r = false) ∧ (∀ l ∈ optsD B j true, geW B A l i = false) := by
  unfold geW
  rw [winF_eq A B hA hB]
  simp only [Bool.not_false, Bool.not_eq_true', Bool.or_eq_false_iff, List.any_eq_false, Bool.not_eq_true, Bool.not_eq_false']
  constructor
  · rintro ⟨h1, h2⟩
    refine ⟨fun r hr => ?_, fun l hl => ?_⟩
    · have := h1 r hr
      rw [winF_turn A B hA hB _ r j (Nat.lt_succ_self _)] at this
      simpa using this
    · have := h2 l hl
      rw [winF_turn A B hA hB _ i l (Nat.lt_succ_self _)] at this
      simpa using this
  · rintro ⟨h1, h2⟩
    refine ⟨fun r hr => ?_, fun l hl => ?_⟩
    · rw [winF_turn A B hA hB _ r j (Nat.lt_succ_self _)]
      simpa using h1 r hr
    · rw [winF_turn A B hA hB _ i l (Nat.lt_succ_self _)]
      simpa using h2 l hl

theorem ge_refl {A : List Nd} (hA : Under A) : ∀ i, geW A A i i = true := by
  intro i
  induction i using Nat.strongRecOn with
  | ind i ih =>
    refine (ge_step hA hA i i).2 ⟨fun r hr => ?_, fun l hl => ?_⟩
    · have hlt := optsD_lt hA hr
      cases h : geW A A i r with
      | false => rfl
      | true =>
        have := ((ge_step hA hA i r).1 h).1 r hr
        rw [ih r hlt] at this
        cases this
    · have hlt := optsD_lt hA hl
      cases h : geW A A l i with
      | false => rfl
      | true =>
        have := ((ge_step hA hA l i).1 h).2 l hl
        rw [ih l hlt] at this
        cases this

theorem ge_trans_n : ∀ (n : Nat) (A B C : List Nd), Under A → Under B → Under C → ∀ i j k, i + j + k < n → geW A B i j = true → geW B C j k = true → geW A C i k = true := by
  intro n
  induction n with
  | zero => intro A B C _ _ _ i j k h; omega
  | succ n ih =>
    intro A B C hA hB hC i j k h h1 h2
    refine (ge_step hA hC i k).2 ⟨fun r hr => ?_, fun l hl => ?_⟩
    · have hlt := optsD_lt hA hr
      cases h3 : geW C A k r with
      | false => rfl
      | true =>
        have h4 := ih B C A hB hC hA j k r (by omega) h2 h3
        rw [((ge_step hA hB i j).1 h1).1 r hr] at h4
        cases h4
    · have hlt := optsD_lt hC hl
      cases h3 : geW C A l i with
      | false => rfl
      | true =>
        have h4 := ih C A B hC hA hB l i j (by omega) h3 h1
        rw [((ge_step hB hC j k).1 h2).2 l hl] at h4
        cases h4
theorem ge_trans {A B C : List Nd} (hA : Under A) (hB : Under B) (hC : Under C) {i j k : Nat} (h1 : geW A B i j = true) (h2 : geW B C j k = true) : geW A C i k = true := ge_trans_n _ A B C hA hB hC i j k (Nat.lt_succ_self _) h1 h2
end

section
set_option linter.unusedVariables false
set_option linter.unusedSimpArgs false

/-- none of the first n stands above the one at i -/
def bestB (g : Nat → Nat → Bool) (n i : Nat) : Bool := (List.range n).all (fun k => !((k != i) && g k i && (decide (k < i) || !g i k)))
def bestL (g : Nat → Nat → Bool) (n : Nat) : List Nat := (List.range n).filter (bestB g n)

theorem bestB_iff (g : Nat → Nat → Bool) (n i : Nat) : bestB g n i = true ↔ ∀ k, k < n → k ≠ i → g k i = true → i < k ∧ g i k = true := by
  unfold bestB
  simp only [List.all_eq_true, List.mem_range, Bool.not_eq_true', Bool.and_eq_false_iff, bne_eq_false_iff_eq, Bool.or_eq_false_iff, decide_eq_false_iff_not, Bool.not_eq_false']
  constructor
  · intro h k hk hne hg
    rcases h k hk with (h | h) | ⟨h1, h2⟩
    · exact absurd h hne
    · rw [hg] at h; cases h
    · exact ⟨by omega, h2⟩
  · intro h k hk
    by_cases hne : k = i
    · exact Or.inl (Or.inl hne)
    · cases hg : g k i with
      | false => exact Or.inl (Or.inr rfl)
      | true =>
        obtain ⟨h1, h2⟩ := h k hk hne hg
        exact Or.inr ⟨by omega, h2⟩

/-- one more -/
def moreL (g : Nat → Nat → Bool) (S : List Nat) (i : Nat) : List Nat := if S.any (fun k => g k i) then S else S.filter (fun k => !g i k) ++ [i]

theorem best_more (g : Nat → Nat → Bool) (hr : ∀ i, g i i = true) (ht : ∀ i j k, g i j = true → g j k = true → g i k = true) : ∀ n, (∀ x, x < n → ∃ k ∈ bestL g n, g k x = true) ∧ bestL g (n + 1) = moreL g (bestL g n) n := by
  have step : ∀ n, (∀ x, x < n → ∃ k ∈ bestL g n, g k x = true) → bestL g (n + 1) = moreL g (bestL g n) n := fun n hc => by
    unfold moreL
    have hfil : bestL g (n + 1) = (List.range n).filter (bestB g (n + 1)) ++ [n].filter (bestB g (n + 1)) := by
      unfold bestL
      rw [List.range_succ, List.filter_append]
    rw [hfil]
    by_cases h : (bestL g n).any (fun k => g k n) = true
    · rw [if_pos h]
      obtain ⟨k0, hk0, hg0⟩ := List.any_eq_true.1 h
      have hk0n : k0 < n := by
        unfold bestL at hk0
        exact List.mem_range.1 (List.mem_filter.1 hk0).1
      have h1 : [n].filter (bestB g (n + 1)) = [] := by
        rw [List.filter_cons, List.filter_nil, if_neg]
        intro hb
        obtain ⟨h2, _⟩ := (bestB_iff g (n + 1) n).1 hb k0 (by omega) (by omega) hg0
        omega
      rw [h1, List.append_nil]
      unfold bestL
      refine List.filter_congr fun x hx => ?_
      have hxn := List.mem_range.1 hx
      rw [Bool.eq_iff_iff, bestB_iff, bestB_iff]
      constructor
      · exact fun hb k hk => hb k (by omega)
      · intro hb k hk hne hgk
        by_cases hkn : k = n
        · subst hkn
          refine ⟨hxn, ?_⟩
          have h3 := ht k0 k x hg0 hgk
          by_cases e : k0 = x
          · rw [← e]; exact hg0
          · exact ht x k0 k (hb k0 hk0n e h3).2 hg0
        · exact hb k (by omega) hne hgk
    · rw [if_neg h]
      have hno : ∀ x, x < n → g x n = false := fun x hx => by
        cases hg : g x n with
        | false => rfl
        | true =>
          obtain ⟨k, hk, hkx⟩ := hc x hx
          exact absurd (List.any_eq_true.2 ⟨k, hk, ht k x n hkx hg⟩) h
      have h1 : [n].filter (bestB g (n + 1)) = [n] := by
        rw [List.filter_cons, List.filter_nil, if_pos]
        refine (bestB_iff g (n + 1) n).2 fun k hk hne hgk => ?_
        rw [hno k (by omega)] at hgk
        cases hgk
      rw [h1]
      congr 1
      unfold bestL
      rw [List.filter_filter]
      refine List.filter_congr fun x hx => ?_
      have hxn := List.mem_range.1 hx
      rw [Bool.eq_iff_iff, Bool.and_eq_true, bestB_iff, bestB_iff, Bool.not_eq_true']
      constructor
      · intro hb
        refine ⟨?_, fun k hk => hb k (by omega)⟩
        cases hg : g n x with
        | false => rfl
        | true =>
          have := (hb n (by omega) (by omega) hg).2
          rw [hno x hxn] at this
          cases this
      · rintro ⟨hg, hb⟩ k hk hne hgk
        by_cases hkn : k = n
        · subst hkn
          rw [hg] at hgk
          cases hgk
        · exact hb k (by omega) hne hgk
  intro n
  induction n with
  | zero => exact ⟨fun x hx => by omega, step 0 (fun x hx => by omega)⟩
  | succ n ih =>
    have hc : ∀ x, x < n + 1 → ∃ k ∈ bestL g (n + 1), g k x = true := fun x hx => by
      rw [ih.2]
      unfold moreL
      by_cases h : (bestL g n).any (fun k => g k n) = true
      · rw [if_pos h]
        rcases Nat.lt_or_ge x n with h1 | h1
        · exact ih.1 x h1
        · obtain ⟨k, hk, hg⟩ := List.any_eq_true.1 h
          obtain rfl : x = n := by omega
          exact ⟨k, hk, hg⟩
      · rw [if_neg h]
        rcases Nat.lt_or_ge x n with h1 | h1
        · obtain ⟨k, hk, hg⟩ := ih.1 x h1
          cases h2 : g n k with
          | false => exact ⟨k, List.mem_append_left _ (List.mem_filter.2 ⟨hk, by rw [h2]; rfl⟩), hg⟩
          | true => exact ⟨n, by simp, ht n k x h2 hg⟩
        · obtain rfl : x = n := by omega
          exact ⟨x, by simp, hr x⟩
    exact ⟨hc, step (n + 1) hc⟩

/-- before the one that stands above it, none was dropped for it -/
theorem best_kept (g : Nat → Nat → Bool) (ht : ∀ i j k, g i j = true → g j k = true → g i k = true) {n i k0 k : Nat} (h0 : k0 ∈ bestL g n) (hk : k ∈ bestL g n) (hlt : k < k0) (hg : g k0 i = true) : ¬ (g i k = true ∧ g k i = false) := by
  rintro ⟨h1, h2⟩
  unfold bestL at h0 hk
  have hk0 := List.mem_range.1 (List.mem_filter.1 h0).1
  have hb := (bestB_iff g n k).1 (List.mem_filter.1 hk).2
  have h3 := (hb k0 hk0 (by omega) (ht k0 i k hg h1)).2
  rw [ht k k0 i h3 hg] at h2
  cases h2
end

section
open Go.RowKit
set_option linter.unusedVariables false
set_option linter.unusedSimpArgs false

theorem goodS_res (v : Value) (f : List Nz) (r : Bool) (hr : Hid (goodB f = r)) (w : World) (lo hi : Nat) (hh : hi ≤ w.heap.size) (hv : NodesZ w lo hi v f) :
    Calls Try.prog 35 #[.agg #[v]] w fun e w' => e = .returned (.bool r) ∧ Below w.heap.size w w' := by
  rw [← hr.out]
  exact goodS_calls v f w lo hi hh hv
end

section
/-- are all forms good, and at most so many? -/
def alB (m : Nat) (Fs : List (List Nz)) : Bool := decide (Fs.length ≤ m) && Fs.all goodB

theorem alB_parts {m : Nat} {Fs : List (List Nz)} (h : alB m Fs = true) : Fs.length ≤ m ∧ ∀ f ∈ Fs, goodB f = true := by
  unfold alB at h
  rw [Bool.and_eq_true, decide_eq_true_eq, List.all_eq_true] at h
  exact h
end

section
set_option linter.unusedVariables false
set_option linter.unusedSimpArgs false
open Go.RowKit

theorem all_take_snoc {Fs : List (List Nz)} {k : Nat} {f : List Nz} (h : ∀ g ∈ Fs.take k, goodB g = true) (hf : Fs[k]? = some f) (hg : goodB f = true) : ∀ g ∈ Fs.take (k + 1), goodB g = true := fun g hm => by
  rw [List.take_add_one, hf] at hm
  rcases List.mem_append.1 hm with h1 | h1
  · exact h g h1
  · simp at h1; rw [h1]; exact hg

set_option maxRecDepth 100000 in
set_option maxHeartbeats 1000000 in
theorem l3All_calls (v : Value) (Fs : List (List Nz)) (m : Nat) (hm : m ≤ 1000) (r : Bool) (hr : Hid (alB m Fs = r)) (w : World) (lo hi : Nat) (hh : hi ≤ w.heap.size) (hv : FormsZ w lo hi v Fs) :
    Calls Try.prog 51 #[v, .int .i64 m] w fun e w' => e = .returned (.bool r) ∧ Below w.heap.size w w' := by
  have HV := Lib.hid hv
  obtain ⟨ao, c, rfl, hcap, _⟩ := hv
  go_enter Try.func51, Try.ntmps51
  go_wp2
  go_loopw [5] (fun i wr => ∃ k : Nat, k ≤ Fs.length ∧ k ≤ m + 1 ∧ i = .int .i64 k ∧ Hid (∀ g ∈ Fs.take k, goodB g = true) ∧ Hid (Below w.heap.size w wr)) (fun i _ => Fs.length - (intOf i).toNat)
  case atStart => exact ⟨0, Nat.zero_le _, by omega, rfl, Lib.hid (fun f hf => by simp at hf), Lib.hid (Below.refl _ _)⟩
  case round =>
    obtain ⟨k, hk, hkm, rfl, hgd, hb⟩ := hrel
    by_cases hlt : k < Fs.length
    · by_cases hle : k ≤ m
      · obtain ⟨f, hf⟩ := lt_get hlt
        obtain ⟨ao1, c1, e1, _, hn⟩ := HV.out.below hb.out hh
        obtain ⟨b, off, vf, rfl, _, hbh, p1, i1⟩ := hn k f hf
        obtain ⟨q1, q2, q3⟩ := slice_inj e1
        subst q1 q3
        clear q2 hn e1
        obtain ⟨rf, hrf⟩ : ∃ r, goodB f = r := ⟨_, rfl⟩
        have C := Lib.hid (goodS_res vf f rf (Lib.hid hrf) wr lo hi (by have := hb.out.size; omega) i1)
        have HF := Lib.hid hf
        have HRF := Lib.hid hrf
        have hbs := hb.out.size
        obtain ⟨af, nf, cf, rfl⟩ : ∃ a n c, vf = .slice a n c := by obtain ⟨a, c, e, _⟩ := i1; exact ⟨a, _, c, e⟩
        have k0 : (0 : Int) ≤ k := by omega
        have k1 : (k : Int) < Fs.length := by omega
        have k2 : (k : Int) ≤ m := by omega
        clear hf hrf i1
        go_wp2_with fail
        refine C.out.mono ?_
        rintro e w1 ⟨rfl, hb1⟩
        have HB1 := Lib.hid (hb.out.trans (hb1.mono hbs))
        clear hb1 C hb p1
        cases rf with
        | false =>
          obtain rfl : r = false := by
            rw [← hr.out]
            unfold alB
            rw [Bool.and_eq_false_iff]
            right
            rw [List.all_eq_false]
            exact ⟨f, List.mem_of_getElem? HF.out, by rw [HRF.out]; simp⟩
          clear hr
          go_wp2_with fail
          go_ret
          exact ⟨rfl, HB1.out⟩
        | true =>
          have HG2 := Lib.hid (all_take_snoc hgd.out HF.out HRF.out)
          clear hgd
          go_wp2_with fail
          go_roundw
          case rel => exact ⟨k + 1, by omega, by omega, by go_num, HG2, HB1⟩
          case measure => first | (simp [intOf]; done) | (simp [intOf]; omega)
      · obtain rfl : r = false := by
          rw [← hr.out]
          unfold alB
          rw [Bool.and_eq_false_iff]
          left
          rw [decide_eq_false_iff_not]
          omega
        have k1 : (k : Int) < Fs.length := by omega
        have k2 : ¬ (k : Int) ≤ m := by omega
        have k3 : ¬ (Fs.length : Int) ≤ m := by omega
        clear hr
        go_wp2
        go_ret
        exact ⟨by first | rfl | exact ret_bool (decide_eq_false k3) | exact ret_bool (by simp; omega), hb.out⟩
    · have hke : k = Fs.length := by omega
      subst hke
      have HRR : Hid (decide (Fs.length ≤ m) = r) := Lib.hid (by
        rw [← hr.out]
        unfold alB
        have h := hgd.out
        rw [List.take_length] at h
        rw [List.all_eq_true.2 h, Bool.and_true])
      clear hr hgd
      go_wp2
      all_goals
        go_ret
        exact ⟨by first | exact ret_bool HRR.out | exact ret_bool (by rw [← HRR.out]; simp) | exact ret_bool (by rw [← HRR.out]; simp; omega), hb.out⟩
end

section
open Go.RowKit
set_option linter.unusedVariables false
set_option linter.unusedSimpArgs false

/-- at least, among forms of a list -/
def geI (Fs : List (List Nz)) (i k : Nat) : Bool := geW ((Fs.getD i []).map downN) ((Fs.getD k []).map downN) ((Fs.getD i []).length - 1) ((Fs.getD k []).length - 1)

/-- who is told -/
def grtV (Fs : List (List Nz)) : List Nat := if alB 24 Fs then bestL (geI Fs) Fs.length else []

/-- the first k have been looked at -/
def bestK (g : Nat → Nat → Bool) (i k : Nat) : Bool := bestB g k i
theorem bestB_succ (g : Nat → Nat → Bool) (k i : Nat) : bestB g (k + 1) i = (bestB g k i && !((k != i) && g k i && (decide (k < i) || !g i k))) := by
  unfold bestB
  rw [List.range_succ, List.all_append]
  simp
theorem bestB_zero (g : Nat → Nat → Bool) (i : Nat) : bestB g 0 i = true := rfl

/-- who is told of the first -/
def toldL (g : Nat → Nat → Bool) (n i : Nat) : List Nat := (List.range i).filter (bestB g n)
theorem toldL_succ (g : Nat → Nat → Bool) (n i : Nat) : toldL g n (i + 1) = toldL g n i ++ if bestB g n i then [i] else [] := by
  unfold toldL
  rw [List.range_succ, List.filter_append, List.filter_cons, List.filter_nil]
theorem toldL_len (g : Nat → Nat → Bool) (n i : Nat) : (toldL g n i).length ≤ i := by
  unfold toldL
  exact Nat.le_trans (List.length_filter_le _ _) (by simp)

theorem forms_vals {w : World} {lo hi : Nat} {v : Value} {Fs : List (List Nz)} (h : FormsZ w lo hi v Fs) {i : Nat} {f : List Nz} (hf : Fs[i]? = some f) :
    ∃ b off c a n d, v = .slice (some ⟨b, off, none⟩) Fs.length c ∧ b < hi ∧ w.cell? ⟨b, off + i, none⟩ = some (.slice a n d) ∧ NodesZ w lo hi (.slice a n d) f := by
  obtain ⟨ao, c, rfl, _, h3⟩ := h
  obtain ⟨b, off, vf, rfl, _, hb, p1, i1⟩ := h3 i f hf
  obtain ⟨a, d, e, _⟩ := id i1
  subst e
  exact ⟨b, off, c, a, _, d, rfl, hb, p1, i1⟩
end

section
set_option linter.unusedVariables false
set_option linter.unusedSimpArgs false

/-- what stands in the set when i have found their places and the next one was compared with k of them -/
def setB (g : Nat → Nat → Bool) (i k x : Nat) : Bool := decide (x ∈ bestL g i) && !(decide (x < k) && (g i x && !g x i))

theorem setB_zero (g : Nat → Nat → Bool) (i x : Nat) : setB g i 0 x = decide (x ∈ bestL g i) := by
  unfold setB
  simp

theorem setB_has (g : Nat → Nat → Bool) (i k : Nat) : setB g i k k = decide (k ∈ bestL g i) := by
  unfold setB
  simp

theorem setB_skip (g : Nat → Nat → Bool) (i k : Nat) (h : decide (k ∈ bestL g i) = false) (x : Nat) : setB g i k x = setB g i (k + 1) x := by
  have h1 : k ∉ bestL g i := by simpa using h
  unfold setB
  by_cases hx : x ∈ bestL g i
  · have hne : x ≠ k := fun e => h1 (e ▸ hx)
    have e : decide (x < k) = decide (x < k + 1) := by
      rw [decide_eq_decide]
      omega
    rw [e]
  · simp [hx]

theorem setB_keep (g : Nat → Nat → Bool) (i k : Nat) (h : (g i k && !g k i) = false) (x : Nat) : setB g i k x = setB g i (k + 1) x := by
  unfold setB
  by_cases hxk : x = k
  · subst hxk
    rw [h]
    simp
  · have e : decide (x < k) = decide (x < k + 1) := by
      rw [decide_eq_decide]
      omega
    rw [e]

theorem setB_drop (g : Nat → Nat → Bool) (i k : Nat) (h : (g i k && !g k i) = true) (x : Nat) : (setB g i k x && decide (x ∉ [k])) = setB g i (k + 1) x := by
  unfold setB
  by_cases hxk : x = k
  · subst hxk
    rw [h]
    simp
  · have e : decide (x < k) = decide (x < k + 1) := by
      rw [decide_eq_decide]
      omega
    rw [e]
    have e2 : decide (x ∉ [k]) = true := by simp [hxk]
    rw [e2, Bool.and_true]

theorem best_lt {g : Nat → Nat → Bool} {n x : Nat} (h : x ∈ bestL g n) : x < n := List.mem_range.1 (List.mem_filter.1 h).1

theorem setB_next (g : Nat → Nat → Bool) (hr : ∀ i, g i i = true) (ht : ∀ i j k, g i j = true → g j k = true → g i k = true) (i k : Nat) (hk : decide (k ∈ bestL g i) = true) (hg : g k i = true) (x : Nat) : setB g i k x = decide (x ∈ bestL g (i + 1)) := by
  have hk' : k ∈ bestL g i := by simpa using hk
  rw [(best_more g hr ht i).2]
  unfold moreL
  rw [if_pos (List.any_eq_true.2 ⟨k, hk', hg⟩)]
  unfold setB
  by_cases hx : x ∈ bestL g i
  · have e : (decide (x < k) && (g i x && !g x i)) = false := by
      by_cases hlt : x < k
      · have h := best_kept g ht hk' hx hlt hg
        cases h1 : g i x with
        | false => simp
        | true =>
          cases h2 : g x i with
          | true => simp
          | false => exact absurd ⟨h1, h2⟩ h
      · simp [hlt]
    rw [e]
    simp
  · simp [hx]

theorem setB_end (g : Nat → Nat → Bool) (hr : ∀ i, g i i = true) (ht : ∀ i j k, g i j = true → g j k = true → g i k = true) (i : Nat) (h : ∀ x, x ∈ bestL g i → x < i → g x i = false) (x : Nat) : (decide (x ∈ [i]) || setB g i i x) = decide (x ∈ bestL g (i + 1)) := by
  rw [(best_more g hr ht i).2]
  have hno : ¬ (bestL g i).any (fun k => g k i) = true := fun ha => by
    obtain ⟨k, hk, hg⟩ := List.any_eq_true.1 ha
    rw [h k hk (best_lt hk)] at hg
    cases hg
  unfold moreL
  rw [if_neg hno]
  unfold setB
  by_cases hx : x ∈ bestL g i
  · have hlt := best_lt hx
    have hgx := h x hx hlt
    have hne : x ≠ i := by omega
    rw [hgx]
    cases h1 : g i x <;> simp [hx, hlt, hne, h1]
  · by_cases hxi : x = i
    · subst hxi
      simp
    · simp [hx, hxi]

theorem best_asc (g : Nat → Nat → Bool) (n : Nat) : (bestL g n).Pairwise (· < ·) := List.Pairwise.filter _ List.pairwise_lt_range
theorem best_len (g : Nat → Nat → Bool) (n : Nat) : (bestL g n).length ≤ n := by
  have h := List.length_filter_le (bestB g n) (List.range n)
  rw [List.length_range] at h
  exact h
theorem best_zero (g : Nat → Nat → Bool) (x : Nat) : decide (x ∈ bestL g 0) = false := by
  unfold bestL
  simp

theorem getD_under {Fs : List (List Nz)} (h : ∀ f ∈ Fs, goodB f = true) (i : Nat) : Under ((Fs.getD i []).map downN) := by
  rw [List.getD_eq_getElem?_getD]
  cases hf : Fs[i]? with
  | none =>
    intro j nd hj
    simp at hj
  | some f =>
    exact ((goodB_iff f).1 (h f (List.mem_of_getElem? hf))).2.1.up.2.under

theorem geI_refl {Fs : List (List Nz)} (h : ∀ f ∈ Fs, goodB f = true) (i : Nat) : geI Fs i i = true := ge_refl (getD_under h i) _
theorem geI_trans {Fs : List (List Nz)} (h : ∀ f ∈ Fs, goodB f = true) (i j k : Nat) (h1 : geI Fs i j = true) (h2 : geI Fs j k = true) : geI Fs i k = true := ge_trans (getD_under h i) (getD_under h j) (getD_under h k) h1 h2

/-- what the contest of two of them tells -/
theorem geI_code {Fs : List (List Nz)} (h : ∀ f ∈ Fs, goodB f = true) {i k : Nat} {f fk : List Nz} (hf : Fs[i]? = some f) (hk : Fs[k]? = some fk) (r l : Bool) (hr : winF (fk.map downN) (f.map downN) ((fk.map downN).length - 1) ((f.map downN).length - 1) false = r) (hl : winF (fk.map downN) (f.map downN) ((fk.map downN).length - 1) ((f.map downN).length - 1) true = l) :
    geI Fs k i = !r ∧ geI Fs i k = !l := by
  have u1 := getD_under h i
  have u2 := getD_under h k
  have e1 : Fs.getD i [] = f := by rw [List.getD_eq_getElem?_getD, hf]; rfl
  have e2 : Fs.getD k [] = fk := by rw [List.getD_eq_getElem?_getD, hk]; rfl
  rw [e1] at u1
  rw [e2] at u2
  unfold geI geW
  rw [e1, e2]
  rw [List.length_map, List.length_map] at hr hl
  refine ⟨by rw [hr], ?_⟩
  rw [winF_turn (f.map downN) (fk.map downN) u1 u2 _ (f.length - 1) (fk.length - 1) (Nat.lt_succ_self _) false]
  simp only [Bool.not_false]
  rw [hl]
end

section
open Go.RowKit
set_option linter.unusedVariables false
set_option linter.unusedSimpArgs false

theorem good_take_snoc {Fs : List (List Nz)} {k : Nat} {f : List Nz} (h : ∀ g ∈ Fs.take k, goodB g = true) (hf : Fs[k]? = some f) (hg : goodB f = true) : ∀ g ∈ Fs.take (k + 1), goodB g = true := fun x hm => by
  rw [List.take_add_one, hf] at hm
  rcases List.mem_append.1 hm with h1 | h1
  · exact h x h1
  · simp at h1; rw [h1]; exact hg

set_option maxRecDepth 100000 in
set_option maxHeartbeats 1000000 in
theorem allGood_calls (v : Value) (Fs : List (List Nz)) (r : Bool) (hr : Hid (Fs.all goodB = r)) (w : World) (lo hi : Nat) (hh : hi ≤ w.heap.size) (hv : FormsZ w lo hi v Fs) :
    Calls Try.prog 44 #[v] w fun e w' => e = .returned (.bool r) ∧ Below w.heap.size w w' := by
  have HV := Lib.hid hv
  obtain ⟨ao, c, rfl, hcap, _⟩ := hv
  go_enter Try.func44, Try.ntmps44
  go_wp2
  go_loopw [7] (fun i wr => ∃ k : Nat, k ≤ Fs.length ∧ i = .int .i64 k ∧ Hid (∀ g ∈ Fs.take k, goodB g = true) ∧ Hid (Below w.heap.size w wr)) (fun i _ => Fs.length - (intOf i).toNat)
  case atStart => exact ⟨0, Nat.zero_le _, rfl, Lib.hid (fun f hf => by simp at hf), Lib.hid (Below.refl _ _)⟩
  case round =>
    obtain ⟨k, hk, rfl, hgd, hb⟩ := hrel
    by_cases hlt : k < Fs.length
    · obtain ⟨f, hf⟩ := lt_get hlt
      obtain ⟨ao1, c1, e1, _, hn⟩ := HV.out.below hb.out hh
      obtain ⟨b, off, vf, rfl, _, hbh, p1, i1⟩ := hn k f hf
      obtain ⟨q1, q2, q3⟩ := slice_inj e1
      subst q1 q3
      clear q2 hn e1
      obtain ⟨rf, hrf⟩ : ∃ r, goodB f = r := ⟨_, rfl⟩
      have hbs := hb.out.size
      obtain ⟨af, nf, cf, rfl⟩ : ∃ a n c, vf = .slice a n c := by obtain ⟨a, c, e, _⟩ := i1; exact ⟨a, _, c, e⟩
      have hal : Below wr.heap.size wr (wr.alloc (.cells #[.slice af nf cf] 26)) := (Below.refl _ _).alloc (Nat.le_refl _) _
      have C0 := goodI_calls (.slice af nf cf) f (wr.alloc (.cells #[.slice af nf cf] 26)) lo hi (by have := hal.size; omega) (i1.below hal (by omega))
      rw [hrf] at C0
      have C := Lib.hid C0
      have HAL := Lib.hid (hb.out.trans (hal.mono hbs))
      have HF := Lib.hid hf
      have HRF := Lib.hid hrf
      have k0 : (0 : Int) ≤ k := by omega
      have k1 : (k : Int) < Fs.length := by omega
      clear hf hrf i1 hal C0
      go_wp2_with fail
      refine C.out.mono ?_
      rintro e w1 ⟨rfl, hb1⟩
      have HB1 := Lib.hid (HAL.out.trans (hb1.mono HAL.out.size))
      clear hb1 C hb p1 HAL
      cases rf with
      | false =>
        obtain rfl : r = false := by
          rw [← hr.out, List.all_eq_false]
          exact ⟨f, List.mem_of_getElem? HF.out, by rw [HRF.out]; simp⟩
        clear hr
        go_wp2_with fail
        exact bodyPost_ret (v := .bool false) (by simp [results, Try.results44, go_sem]) rfl ⟨rfl, HB1.out⟩
      | true =>
        have HG2 := Lib.hid (good_take_snoc hgd.out HF.out HRF.out)
        clear hgd
        go_wp2_with fail
        go_roundw
        case rel => exact ⟨k + 1, by omega, by go_num, HG2, HB1⟩
        case measure => simp [intOf]; omega
    · have hke : Fs.take k = Fs := List.take_of_length_le (by omega)
      rw [hke] at hgd
      obtain rfl : r = true := by
        rw [← hr.out, List.all_eq_true]
        exact hgd.out
      clear hr hke
      go_wp2
      exact bodyPost_ret (v := .bool true) (by simp [results, Try.results44, go_sem]) rfl ⟨rfl, hb.out⟩
end

section
open Go.RowKit
set_option linter.unusedVariables false
set_option linter.unusedSimpArgs false

theorem options_calls (v1 v2 : Value) (left : Bool) (w : World) :
    Calls Try.prog 107 #[.agg #[v1, v2], .bool left] w fun e w' => e = .returned (if left then v1 else v2) ∧ Below w.heap.size w w' := by
  have HB := Lib.hid fun o => show Below w.heap.size w (w.alloc o) from (Below.refl _ _).alloc (Nat.le_refl _) _
  cases left with
  | true =>
    go_enter Try.func107, Try.ntmps107
    go_wp2
    go_ret
    exact ⟨rfl, HB.out _⟩
  | false =>
    go_enter Try.func107, Try.ntmps107
    go_wp2
    go_ret
    exact ⟨rfl, HB.out _⟩

/-- the table of answers -/
def RowV (base g n cap : Nat) (cs : List Int) (w : World) : Prop := w.ownsRow base 107 1 (.slice (some ⟨g, 0, none⟩) n cap) n (cs.map (Value.int .i8))

theorem RowV.at_ {base g n cap x : Nat} {v : Int} {cs : List Int} {w : World} (h : RowV base g n cap cs w) (hx : cs[x]? = some v) : w.cell? ⟨g, x, none⟩ = some (.int .i8 v) ∧ w.frozen? ⟨g, x, none⟩ = false := by
  have hl : (cs.map (Value.int .i8)).length = n * 1 := h.1
  have hlt := get_lt hx
  rw [List.length_map] at hl
  have h2 := World.ownsRow.cellAt h x (by omega)
  refine ⟨?_, World.ownsRow.frozenAt h x⟩
  rw [h2, List.getElem?_map, hx]
  rfl

theorem RowV.put {base g n cap x : Nat} {v : Int} {cs : List Int} {w : World} (h : RowV base g n cap cs w) :
    RowV base g n cap (cs.set x v) (w.setCell ⟨g, x, none⟩ (.int .i8 v)) ∧ Only w (w.setCell ⟨g, x, none⟩ (.int .i8 v)) (fun b => b = g) := by
  have h2 := World.ownsRow.stored h x (.int .i8 v)
  rw [← List.map_set] at h2
  exact ⟨h2.1, Only.of_set _ rfl⟩

theorem RowV.lt {base g n cap : Nat} {cs : List Int} {w : World} (h : RowV base g n cap cs w) : base ≤ g ∧ g < w.heap.size := World.ownsRow.lt h g rfl

theorem RowV.below {base g n cap : Nat} {cs : List Int} {w w' : World} (h : RowV base g n cap cs w) (hb : Below w.heap.size w w') : RowV base g n cap cs w' :=
  own_only h (Only.of_below (F := fun _ => False) hb) (fun _ _ => id)

/-- a contest of two games -/
structure Ct (w : World) (base P g n cap : Nat) (A B : List Nd) (va vb : Value) : Prop where
  c0 : w.cell? ⟨P, 0, none⟩ = some va
  c1 : w.cell? ⟨P, 1, none⟩ = some vb
  c2 : w.cell? ⟨P, 2, none⟩ = some (.slice (some ⟨g, 0, none⟩) n cap)
  na : NodesZ w 0 base va (A.map upN)
  nb : NodesZ w 0 base vb (B.map upN)
  hg : base ≤ g
  hgl : g < w.heap.size
  hP : P ≠ g

theorem Only.sameIn {w w' : World} {F : Nat → Prop} {hi : Nat} (h : Only w w' F) (hl : hi ≤ w.heap.size) (hF : ∀ b, b < hi → ¬ F b) : SameIn 0 hi w w' := fun b o _ h2 => h.cell (by omega) (hF b h2)

theorem Ct.only {w w' : World} {base P g n cap : Nat} {A B : List Nd} {va vb : Value} (h : Ct w base P g n cap A B va vb) (ho : Only w w' (fun b => b = g)) : Ct w' base P g n cap A B va vb := by
  have hP := block_of_cell h.c0
  have h1 := h.hg
  have h2 := h.hgl
  have hs : SameIn 0 base w w' := ho.sameIn (by omega) (fun b hb e => by omega)
  exact ⟨(ho.cell hP h.hP).trans h.c0, (ho.cell hP h.hP).trans h.c1, (ho.cell hP h.hP).trans h.c2, h.na.keep hs, h.nb.keep hs, h.hg, Nat.lt_of_lt_of_le h.hgl ho.size, h.hP⟩

theorem Ct.below {w w' : World} {base P g n cap : Nat} {A B : List Nd} {va vb : Value} (h : Ct w base P g n cap A B va vb) (hb : Below w.heap.size w w') : Ct w' base P g n cap A B va vb := h.only (Only.of_below hb)

/-- what a question of the contest leaves -/
def Asked (base g n cap : Nat) (A B : List Nd) (w w' : World) : Prop := ∃ cs, Wn A B cs ∧ RowV base g n cap cs w' ∧ Only w w' (fun b => b = g)

/-- a node of a slice of nodes of numbers, cell by cell -/
theorem nodes_at {w : World} {lo hi : Nat} {v : Value} {A : List Nd} (h : NodesZ w lo hi v (A.map upN)) {i : Nat} {nd : Nd} (hi' : A[i]? = some nd) :
    ∃ b off c v1 v2, v = .slice (some ⟨b, off, none⟩) A.length c ∧ b < hi ∧ w.cell? ⟨b, off + i * 2, none⟩ = some v1 ∧ w.cell? ⟨b, off + i * 2 + 1, none⟩ = some v2 ∧ IntsZ w lo hi v1 (upL nd.1) ∧ IntsZ w lo hi v2 (upL nd.2) := by
  obtain ⟨ao, c, rfl, _, h3⟩ := h
  obtain ⟨b, off, v1, v2, rfl, _, hb, p1, p2, i1, i2⟩ := h3 i (upN nd) (by rw [List.getElem?_map, hi']; rfl)
  exact ⟨b, off, c, v1, v2, by rw [List.length_map], hb, p1, p2, i1, i2⟩
end

section
open Go.RowKit
set_option linter.unusedVariables false
set_option linter.unusedSimpArgs false

/-- wins, for the pairs of a lesser sum -/
def WinsB (base P g n cap : Nat) (A B : List Nd) (va vb : Value) (s : Nat) : Prop := ∀ (i j : Nat) (l : Bool) (cs : List Int) (w : World), i + j < s → i < A.length → j < B.length → Ct w base P g n cap A B va vb → Wn A B cs → RowV base g n cap cs w →
  Calls Try.prog 58 #[.pointer (some ⟨P, 0, none⟩), .int .i64 i, .int .i64 j, .bool l] w fun e w' => e = .returned (.bool (winF A B i j l)) ∧ Asked base g n cap A B w w'

theorem Asked.trans {base g n cap : Nat} {A B : List Nd} {w w1 w2 : World} (h : Asked base g n cap A B w w1) (k : Asked base g n cap A B w1 w2) : Asked base g n cap A B w w2 := by
  obtain ⟨_, _, _, h3⟩ := h
  obtain ⟨cs, k1, k2, k3⟩ := k
  exact ⟨cs, k1, k2, h3.trans k3 (fun _ _ h => h)⟩

theorem Asked.only {base g n cap : Nat} {A B : List Nd} {w w1 : World} (h : Asked base g n cap A B w w1) : Only w w1 (fun b => b = g) := by obtain ⟨_, _, _, h3⟩ := h; exact h3

theorem Asked.below {base g n cap : Nat} {A B : List Nd} {w w1 w2 : World} (h : Asked base g n cap A B w w1) (hb : Below w1.heap.size w1 w2) : Asked base g n cap A B w w2 := by
  obtain ⟨cs, k1, k2, h3⟩ := h
  exact ⟨cs, k1, k2.below hb, h3.trans (Only.of_below hb) (fun _ _ h => h)⟩

theorem Asked.same {base g n cap : Nat} {A B : List Nd} {w w1 : World} (h : Asked base g n cap A B w w1) (hg : base ≤ g) (hl : g < w.heap.size) : SameIn 0 base w w1 := h.only.sameIn (by omega) (fun b hb e => by omega)

theorem ints_len {w : World} {lo hi : Nat} {v : Value} {l : List Nat} (h : IntsZ w lo hi v (upL l)) : ∃ ao c, v = .slice ao l.length c ∧ (l.length ≤ c ∧ c ≤ 9223372036854775807) := by
  obtain ⟨ao, c, rfl, h2, _⟩ := h
  have : (upL l).length = l.length := by unfold upL; simp
  rw [this] at h2 ⊢
  exact ⟨ao, c, rfl, h2⟩

theorem ints_at {w : World} {lo hi : Nat} {ao : Option Addr} {n c : Nat} {l : List Nat} (h : IntsZ w lo hi (.slice ao n c) (upL l)) {k x : Nat} (hx : l[k]? = some x) : ∃ b off, ao = some ⟨b, off, none⟩ ∧ b < hi ∧ w.cell? ⟨b, off + k, none⟩ = some (.int .i64 (x : Int)) := by
  obtain ⟨ao', c', e, _, h3⟩ := h
  injection e with e1 _ _
  subst e1
  obtain ⟨b, off, e, _, hb, hc⟩ := h3 k (x : Int) (by unfold upL; rw [List.getElem?_map, hx]; rfl)
  exact ⟨b, off, e, hb, hc⟩

set_option maxRecDepth 100000 in
set_option maxHeartbeats 4000000 in
theorem search_calls (base P g n cap : Nat) (A B : List Nd) (va vb : Value) (hA : Under A) (hB : Under B) (i j : Nat) (l : Bool) (IH : WinsB base P g n cap A B va vb (i + j)) (cs : List Int) (w : World) (hi : i < A.length) (hj : j < B.length)
    (h : Ct w base P g n cap A B va vb) (hw : Wn A B cs) (hr : RowV base g n cap cs w) :
    Calls Try.prog 85 #[.pointer (some ⟨P, 0, none⟩), .int .i64 i, .int .i64 j, .bool l] w fun e w' => e = .returned (.int .i8 (wiC A B i j l)) ∧ Asked base g n cap A B w w' := by
  obtain ⟨x, hx⟩ := lt_get hi
  obtain ⟨y, hy⟩ := lt_get hj
  obtain ⟨b1, o1, c1, v1, v2, rfl, hb1, p1, p2, i1, i2⟩ := nodes_at h.na hx
  obtain ⟨b2, o2, c2, u1, u2, rfl, hb2, q1, q2, j1, j2⟩ := nodes_at h.nb hy
  have hbz := h.hg
  have hbz2 := h.hgl
  have k0 := h.c0
  have HC0 := Lib.hid h
  have L1 : Hid (optsD A i l = if l then x.1 else x.2) := Lib.hid (by unfold optsD; rw [nodeD_at hx])
  have L2 : Hid (optsD B j (!l) = if !l then y.1 else y.2) := Lib.hid (by unfold optsD; rw [nodeD_at hy])
  have HW : Hid (winF A B i j l = ((optsD A i l).any (fun o => !winF A B o j (!l)) || (optsD B j (!l)).any (fun o => !winF A B i o (!l)))) := Lib.hid (winF_eq A B hA hB i j l)
  have HL1 : Hid (∀ o, o ∈ optsD A i l → o < i) := Lib.hid (fun o ho => optsD_lt hA ho)
  have HL2 : Hid (∀ o, o ∈ optsD B j (!l) → o < j) := Lib.hid (fun o ho => optsD_lt hB ho)
  have HIH := Lib.hid IH
  have HQ1 := Lib.hid q1
  have HQ2 := Lib.hid q2
  have HJ1 := Lib.hid j1
  have HJ2 := Lib.hid j2
  clear IH hA hB hx hy q1 q2 j1 j2
  go_enter Try.func85, Try.ntmps85
  go_wp2_with fail
  refine (options_calls v1 v2 l w).mono ?_
  rintro e w1 ⟨rfl, hb⟩
  obtain ⟨vo, Lo, hvo, hio, hLo⟩ : ∃ vo Lo, (if l then v1 else v2) = vo ∧ IntsZ w1 0 base vo (upL Lo) ∧ Hid (optsD A i l = Lo) := by
    cases l with
    | true => exact ⟨v1, x.1, rfl, i1.below hb (by omega), Lib.hid (by rw [L1.out]; rfl)⟩
    | false => exact ⟨v2, x.2, rfl, i2.below hb (by omega), Lib.hid (by rw [L1.out]; rfl)⟩
  rw [hvo]
  rw [hLo.out] at HW HL1
  have HC := Lib.hid (h.below hb)
  have HA : Hid (Asked base g n cap A B w w1) := Lib.hid ⟨cs, hw, hr.below hb, Only.of_below hb⟩
  obtain ⟨ao, co, rfl, hco⟩ := ints_len hio
  have HIO := Lib.hid hio
  clear h hr hb i1 i2 p1 p2 k0 hvo L1 hio hw hLo
  go_wp2
  go_loopw [23] (fun q wr => ∃ k : Nat, k ≤ Lo.length ∧ q = .int .i64 k ∧ Hid ((Lo.take k).any (fun o => !winF A B o j (!l)) = false) ∧ Hid (Asked base g n cap A B w wr) ∧ Hid (Ct wr base P g n cap A B (.slice (some ⟨b1, o1, none⟩) A.length c1) (.slice (some ⟨b2, o2, none⟩) B.length c2)) ∧ Hid (IntsZ wr 0 base (.slice ao Lo.length co) (upL Lo))) (fun q _ => Lo.length - (intOf q).toNat)
  case atStart => exact ⟨0, Nat.zero_le _, rfl, Lib.hid (by simp), HA, HC, HIO⟩
  case round =>
    obtain ⟨k, hk, rfl, hany, ha, hc, hio⟩ := hrel
    clear HA HC HIO
    have hgl := ha.out.only.size
    by_cases hlt : k < Lo.length
    · obtain ⟨o, ho⟩ := lt_get hlt
      have hoi := HL1.out o (List.mem_of_getElem? ho)
      obtain ⟨b, off, rfl, hbb, hcell⟩ := ints_at hio.out ho
      obtain ⟨r, hr⟩ : ∃ r, winF A B o j (!l) = r := ⟨_, rfl⟩
      have C := Lib.hid (show ∀ W, Below wr.heap.size wr W → Calls Try.prog 58 #[.pointer (some ⟨P, 0, none⟩), .int .i64 o, .int .i64 j, .bool (!l)] W fun e w' => e = .returned (.bool r) ∧ Asked base g n cap A B W w' from fun W hW => by
        obtain ⟨cs', h1, h2, h3⟩ := ha.out
        rw [← hr]
        exact HIH.out o j (!l) cs' W (by omega) (by omega) hj (hc.out.below hW) h1 (h2.below hW))
      have HO := Lib.hid ho
      have HRR := Lib.hid hr
      clear ho hr
      have b0 : (0 : Int) ≤ k := by omega
      have b1' : (k : Int) < Lo.length := by omega
      cases r with
      | false =>
        have R : Hid (wiC A B i j l = 1) := Lib.hid (by
          unfold wiC
          rw [HW.out, any_at Lo _ k o HO.out (by simp [HRR.out])]
          rfl)
        go_wp2_with fail
        refine (C.out _ (Below.refl _ _)).mono ?_
        rintro e w2 ⟨rfl, ha2⟩
        have HA2 := Lib.hid (ha.out.trans ha2)
        clear ha2
        go_wp2_with fail
        go_ret
        exact ⟨ret_int R.out.symm, HA2.out⟩
      | true =>
        have R : Hid ((Lo.take (k + 1)).any (fun o => !winF A B o j (!l)) = false) := Lib.hid (any_take_false Lo _ k o HO.out hany.out (by simp [HRR.out]))
        go_wp2_with fail
        refine (C.out _ (Below.refl _ _)).mono ?_
        rintro e w2 ⟨rfl, ha2⟩
        have HA2 := Lib.hid (ha.out.trans ha2)
        have HC2 := Lib.hid (hc.out.only ha2.only)
        have HI2 := Lib.hid (hio.out.keep (ha2.same hbz (by omega)))
        clear ha2
        go_wp2_with fail
        go_roundw
        case rel => exact ⟨k + 1, by omega, by go_num, R, HA2, HC2, HI2⟩
        case measure => simp [intOf]; omega
    · have HAN : Hid (Lo.any (fun o => !winF A B o j (!l)) = false) := Lib.hid (by
        have := hany.out
        rwa [List.take_of_length_le (by omega)] at this)
      clear hany hio HL1
      obtain ⟨W1, hW1⟩ : ∃ W, W = wr := ⟨_, rfl⟩
      subst hW1
      have hsm := ha.out.same hbz hbz2
      have k1 := hc.out.c1
      have p1 := (hsm b2 (o2 + j * 2) (Nat.zero_le _) hb2).trans HQ1.out
      have p2 := (hsm b2 (o2 + j * 2 + 1) (Nat.zero_le _) hb2).trans HQ2.out
      have i1 := Lib.hid (HJ1.out.keep hsm)
      have i2 := Lib.hid (HJ2.out.keep hsm)
      have bj : (j : Int) < B.length := by omega
      clear hsm HQ1 HQ2 HJ1 HJ2 HC0
      go_wp2_with fail
      refine (options_calls u1 u2 (!l) W1).mono ?_
      rintro e w2 ⟨rfl, hb⟩
      obtain ⟨vo, Lp, hvo, hio, hLo⟩ : ∃ vo Lp, (if !l then u1 else u2) = vo ∧ IntsZ w2 0 base vo (upL Lp) ∧ Hid (optsD B j (!l) = Lp) := by
        cases l with
        | false => exact ⟨u1, y.1, rfl, i1.out.below hb (by omega), Lib.hid (by rw [L2.out]; rfl)⟩
        | true => exact ⟨u2, y.2, rfl, i2.out.below hb (by omega), Lib.hid (by rw [L2.out]; rfl)⟩
      rw [hvo]
      rw [hLo.out] at HW HL2
      have HC := Lib.hid (hc.out.below hb)
      have HA : Hid (Asked base g n cap A B w w2) := Lib.hid (ha.out.below hb)
      obtain ⟨ap, cp, rfl, hcp⟩ := ints_len hio
      have HIO := Lib.hid hio
      clear hb i1 i2 p1 p2 k1 hvo L2 hio hLo ha hc
      go_wp2
      go_loopw [46] (fun q wr => ∃ k : Nat, k ≤ Lp.length ∧ q = .int .i64 k ∧ Hid ((Lp.take k).any (fun o => !winF A B i o (!l)) = false) ∧ Hid (Asked base g n cap A B w wr) ∧ Hid (Ct wr base P g n cap A B (.slice (some ⟨b1, o1, none⟩) A.length c1) (.slice (some ⟨b2, o2, none⟩) B.length c2)) ∧ Hid (IntsZ wr 0 base (.slice ap Lp.length cp) (upL Lp))) (fun q _ => Lp.length - (intOf q).toNat)
      case atStart => exact ⟨0, Nat.zero_le _, rfl, Lib.hid (by simp), HA, HC, HIO⟩
      case round =>
        obtain ⟨m, hm, rfl, hany, ha, hc, hio⟩ := hrel
        clear HA HC HIO
        have hgl := ha.out.only.size
        by_cases hlt2 : m < Lp.length
        · obtain ⟨o, ho⟩ := lt_get hlt2
          have hoi := HL2.out o (List.mem_of_getElem? ho)
          obtain ⟨b, off, rfl, hbb, hcell⟩ := ints_at hio.out ho
          obtain ⟨r, hr⟩ : ∃ r, winF A B i o (!l) = r := ⟨_, rfl⟩
          have C := Lib.hid (show ∀ W, Below wr.heap.size wr W → Calls Try.prog 58 #[.pointer (some ⟨P, 0, none⟩), .int .i64 i, .int .i64 o, .bool (!l)] W fun e w' => e = .returned (.bool r) ∧ Asked base g n cap A B W w' from fun W hW => by
            obtain ⟨cs', h1, h2, h3⟩ := ha.out
            rw [← hr]
            exact HIH.out i o (!l) cs' W (by omega) hi (by omega) (hc.out.below hW) h1 (h2.below hW))
          have HO := Lib.hid ho
          have HRR := Lib.hid hr
          clear ho hr
          have b0 : (0 : Int) ≤ m := by omega
          have b1' : (m : Int) < Lp.length := by omega
          cases r with
          | false =>
            have R : Hid (wiC A B i j l = 1) := Lib.hid (by
              unfold wiC
              rw [HW.out, any_at Lp _ m o HO.out (by simp [HRR.out]), Bool.or_true]
              rfl)
            go_wp2_with fail
            refine (C.out _ (Below.refl _ _)).mono ?_
            rintro e w3 ⟨rfl, ha2⟩
            have HA2 := Lib.hid (ha.out.trans ha2)
            clear ha2
            go_wp2_with fail
            go_ret
            exact ⟨ret_int R.out.symm, HA2.out⟩
          | true =>
            have R : Hid ((Lp.take (m + 1)).any (fun o => !winF A B i o (!l)) = false) := Lib.hid (any_take_false Lp _ m o HO.out hany.out (by simp [HRR.out]))
            go_wp2_with fail
            refine (C.out _ (Below.refl _ _)).mono ?_
            rintro e w3 ⟨rfl, ha2⟩
            have HA2 := Lib.hid (ha.out.trans ha2)
            have HC2 := Lib.hid (hc.out.only ha2.only)
            have HI2 := Lib.hid (hio.out.keep (ha2.same hbz (by omega)))
            clear ha2
            go_wp2_with fail
            go_roundw
            case rel => exact ⟨m + 1, by omega, by go_num, R, HA2, HC2, HI2⟩
            case measure => simp [intOf]; omega
        · have R : Hid (wiC A B i j l = 2) := Lib.hid (by
            have := hany.out
            rw [List.take_of_length_le (by omega)] at this
            unfold wiC
            rw [HW.out, HAN.out, this]
            rfl)
          clear hany hio
          go_wp2_with fail
          go_ret
          exact ⟨ret_int R.out.symm, ha.out⟩

theorem asked_put {base P g n cap : Nat} {A B : List Nd} {va vb : Value} {w w2 : World} {i j p : Nat} {l : Bool} {wv : Int} (h : Ct w base P g n cap A B va vb) (ha : Asked base g n cap A B w w2) (hi : i < A.length) (hj : j < B.length) (hp : plc B.length i j l = p) (hwv : wiC A B i j l = wv) :
    w2.cell? ⟨P, 2, none⟩ = some (.slice (some ⟨g, 0, none⟩) n cap) ∧ (∃ u, w2.cell? ⟨g, p, none⟩ = some (.int .i8 u)) ∧ w2.frozen? ⟨g, p, none⟩ = false ∧ Hid (Asked base g n cap A B w (w2.setCell ⟨g, p, none⟩ (.int .i8 wv))) ∧
      (w2.setCell ⟨g, p, none⟩ (.int .i8 wv)).cell? ⟨P, 2, none⟩ = some (.slice (some ⟨g, 0, none⟩) n cap) ∧ (w2.setCell ⟨g, p, none⟩ (.int .i8 wv)).cell? ⟨g, p, none⟩ = some (.int .i8 wv) := by
  subst hp hwv
  have h2 := h.only ha.only
  obtain ⟨cs, hw, hr, ho⟩ := ha
  obtain ⟨v, hv⟩ := lt_get (l := cs) (i := plc B.length i j l) (by rw [hw.1]; exact plc_lt hi hj)
  obtain ⟨c0, f0⟩ := hr.at_ hv
  obtain ⟨hr2, ho2⟩ := hr.put (x := plc B.length i j l) (v := wiC A B i j l)
  exact ⟨h2.c2, ⟨v, c0⟩, f0, Lib.hid ⟨_, hw.set hi hj, hr2, ho.trans ho2 (fun _ _ h => h)⟩, (h2.only ho2).c2, World.cell?_setCell_same _ _ _ c0⟩

set_option maxRecDepth 100000 in
set_option maxHeartbeats 4000000 in
theorem wins_step (base P g n cap : Nat) (A B : List Nd) (va vb : Value) (hA : Under A) (hB : Under B) (hAl : A.length ≤ 1000) (hBl : B.length ≤ 1000) (i j : Nat) (l : Bool) (IH : WinsB base P g n cap A B va vb (i + j)) (cs : List Int) (w : World) (hi : i < A.length) (hj : j < B.length)
    (h : Ct w base P g n cap A B va vb) (hw : Wn A B cs) (hr : RowV base g n cap cs w) :
    Calls Try.prog 58 #[.pointer (some ⟨P, 0, none⟩), .int .i64 i, .int .i64 j, .bool l] w fun e w' => e = .returned (.bool (winF A B i j l)) ∧ Asked base g n cap A B w w' := by
  have hdr : Below w.heap.size w w.drew := below_drewN (Below.refl _ _) 1
  have C0 := (search_calls base P g n cap A B va vb hA hB i j l IH cs w.drew hi hj (h.below hdr) hw (hr.below hdr)).mono fun e w' hp => (⟨hp.1, Asked.trans ⟨cs, hw, hr.below hdr, Only.of_below hdr⟩ hp.2⟩ : e = .returned (.int .i8 (wiC A B i j l)) ∧ Asked base g n cap A B w w')
  clear hdr
  have hn : n = 2 * (A.length * B.length) := by have := hr.1; rw [List.length_map, hw.1] at this; omega
  have hp := plc_lt (l := l) hi hj
  obtain ⟨q, hq⟩ : ∃ q, i * B.length = q := ⟨_, rfl⟩
  have hqi : (i : Int) * (B.length : Int) = (q : Int) := by rw [← hq]; simp
  have hqb : q ≤ 1000000 := by rw [← hq]; exact Nat.le_trans (Nat.mul_le_mul (show i ≤ 1000 by omega) hBl) (by omega)
  obtain ⟨ao, c2, rfl, hcb⟩ := (show ∃ ao c, vb = .slice ao B.length c ∧ B.length ≤ c from by obtain ⟨ao, c, e, h1, _⟩ := h.nb; rw [List.length_map] at e h1; exact ⟨ao, c, e, h1.1⟩)
  have hlt : plc B.length i j l < n := by rw [hn]; exact hp
  obtain ⟨v, hv⟩ := lt_get (l := cs) (i := plc B.length i j l) (by rw [hw.1]; exact hp)
  have hent := hw.2 i j l hi hj
  rw [hv] at hent
  obtain ⟨c0, f0⟩ := hr.at_ hv
  obtain ⟨p0, hp0⟩ : ∃ p0, 2 * (q + j) = p0 := ⟨_, rfl⟩
  have hpi : 2 * ((q : Int) + (j : Int)) = (p0 : Int) := by omega
  have hpl : plc B.length i j l = p0 + ofB l := by unfold plc; rw [hq, hp0]
  have k1 := h.c1
  have k2 := h.c2
  have HA0 : Hid (Asked base g n cap A B w w) := Lib.hid ⟨cs, hw, hr, Only.refl _ _⟩
  obtain ⟨r, hwr⟩ : ∃ r, winF A B i j l = r := ⟨_, rfl⟩
  obtain ⟨wv, hwv⟩ : ∃ wv, wiC A B i j l = wv := ⟨_, rfl⟩
  have hwv2 : wv = if r then 1 else 2 := by rw [← hwv, ← hwr]; rfl
  have HF := Lib.hid fun w2 (ha : Asked base g n cap A B w w2) => asked_put h ha hi hj hpl hwv
  rw [hwr]
  rw [hwv] at C0 hent
  have C := Lib.hid C0
  rw [hpl] at hlt c0 f0
  have hjb : (j : Int) ≤ 1000 := by omega
  have hp0b : (p0 : Int) ≤ 2002000 := by omega
  have hp00 : (0 : Int) ≤ p0 := by omega
  clear hq hp0 hn hp hr hw hv hpl h IH hA hB C0 hwr hwv hAl hBl
  cases l with
  | false =>
    have e0 : p0 + ofB false = p0 := rfl
    rw [e0] at hlt c0 f0 HF
    have hltI : (p0 : Int) < n := by omega
    clear e0
    have hv2 : v = wv ∨ v = 0 := by
      rcases hent with e | e
      · right; injection e
      · left; injection e
    clear hent
    rcases hv2 with e | e
    · have v0 : (v == 0) = false := by rw [e, hwv2]; cases r <;> rfl
      have v1 : (v == 1) = r := by rw [e, hwv2]; cases r <;> rfl
      clear e hwv2 C HF
      go_enter Try.func58, Try.ntmps58
      go_wp2_with fail
      go_ret
      exact ⟨rfl, HA0.out⟩
    · subst e
      have v1 : (wv == 1) = r := by rw [hwv2]; cases r <;> rfl
      clear hwv2 HA0
      go_enter Try.func58, Try.ntmps58
      go_wp2_with fail
      go_region_with (go_at_call 85; (with_reducible refine C.out.mono ?_); rintro e w2 ⟨rfl, ha⟩; obtain ⟨d2, ⟨u, d0⟩, df, HA2, d3, d4⟩ := HF.out w2 ha; clear ha)
      all_goals
        go_wp2_with fail
        go_ret
        exact ⟨rfl, HA2.out⟩
  | true =>
    have e0 : p0 + ofB true = p0 + 1 := rfl
    rw [e0] at hlt c0 f0 HF
    have hltI : (p0 : Int) + 1 < n := by omega
    clear e0
    have hv2 : v = wv ∨ v = 0 := by
      rcases hent with e | e
      · right; injection e
      · left; injection e
    clear hent
    rcases hv2 with e | e
    · have v0 : (v == 0) = false := by rw [e, hwv2]; cases r <;> rfl
      have v1 : (v == 1) = r := by rw [e, hwv2]; cases r <;> rfl
      clear e hwv2 C HF
      go_enter Try.func58, Try.ntmps58
      go_wp2_with fail
      go_ret
      exact ⟨rfl, HA0.out⟩
    · subst e
      have v1 : (wv == 1) = r := by rw [hwv2]; cases r <;> rfl
      clear hwv2 HA0
      go_enter Try.func58, Try.ntmps58
      go_wp2_with fail
      go_region_with (go_at_call 85; (with_reducible refine C.out.mono ?_); rintro e w2 ⟨rfl, ha⟩; obtain ⟨d2, ⟨u, d0⟩, df, HA2, d3, d4⟩ := HF.out w2 ha; clear ha)
      all_goals
        go_wp2_with fail
        go_ret
        exact ⟨rfl, HA2.out⟩

theorem wins_calls (base P g n cap : Nat) (A B : List Nd) (va vb : Value) (hA : Under A) (hB : Under B) (hAl : A.length ≤ 1000) (hBl : B.length ≤ 1000) : ∀ s, WinsB base P g n cap A B va vb s
  | 0 => fun i j l cs w h => by omega
  | s + 1 => fun i j l cs w hs hi hj h hw hr => by
    have IH := wins_calls base P g n cap A B va vb hA hB hAl hBl s
    exact wins_step base P g n cap A B va vb hA hB hAl hBl i j l (fun i' j' l' cs' w' hs' hi' hj' h' hw' hr' => IH i' j' l' cs' w' (by omega) hi' hj' h' hw' hr') cs w hi hj h hw hr
end

section
open Go.RowKit Go.Lib
set_option linter.unusedVariables false
set_option linter.unusedSimpArgs false

theorem infoVer : (Try.prog.info? 107).map (fun i => (i.zero, i.size, i.bytes)) = some (some (.int .i8 0), 1, 1) := by kernel_rfl

theorem zeros_one (z : Value) (n : Nat) : Builtin.zeroCells #[z] n = (List.replicate n z).toArray := by
  apply Array.ext
  · simp [Builtin.zeroCells]
  · intro i h1 h2
    simp [Builtin.zeroCells, Nat.mod_one]

set_option maxRecDepth 100000 in
set_option maxHeartbeats 4000000 in
theorem grow_calls (n : Nat) (w : World) (h0 : 0 < n) (hn : n ≤ 100000) :
    Calls Try.prog 74 #[.slice none 0 0, .int .i64 n] w fun e w' => ∃ G m, n ≤ G ∧ G ≤ maxLen ∧ Hid (m = G - n) ∧ e = .returned (.slice (some ⟨w.heap.size, 0, none⟩) 0 G) ∧
      w' = w.drew.alloc (.cells ((List.replicate n (Value.int .i8 0)).toArray ++ (List.replicate m (Value.int .i8 0)).toArray) 107) := by
  obtain ⟨i0, hi0, hz0, hz1, hz2⟩ := info_parts infoVer
  have hrz : ∀ ty, (Builtin.append_ #[71, 3] ty #[.slice none 0 0, .int .i64 (n : Int)]).run Try.prog w =
      .ok (.slice (some ⟨w.heap.size, 0, none⟩) n (grownCap w n 0 107)) (w.drew.alloc (.cells ((List.replicate n (Value.int .i8 0)).toArray ++ (List.replicate (grownCap w n 0 107 - n) (Value.int .i8 0)).toArray) 107)) := fun ty => by
    have h := Lib.run_append_grow_zeros w 71 3 ty 107 i0 (.int .i8 0) .i64 .i64 Try.underlying71 Try.underlying3 hi0 hz0 none 0 0 [] (run_firstCells_none w.drew i0.size 0 0 0) n (by omega) (by omega) (by omega) (by omega)
      (by rw [hz2]; omega) (by rw [Nat.zero_add]; exact growslice_fits (by omega) (by rw [hz2]; omega))
    rw [Nat.zero_add] at h
    have e : (Value.int .i8 0).cells = #[Value.int .i8 0] := rfl
    rw [e, zeros_one, zeros_one] at h
    simpa using h
  have hGn : n ≤ grownCap w n 0 107 := grownCap_ge w _ _ _
  have hGm := grownCap_le_maxLen w n 0 107 (by unfold maxLen; omega)
  obtain ⟨G, hG⟩ : ∃ G, grownCap w n 0 107 = G := ⟨_, rfl⟩
  rw [hG] at hrz hGn hGm
  obtain ⟨m, hm⟩ : ∃ m, G - n = m := ⟨_, rfl⟩
  rw [hm] at hrz
  have HM := Lib.hid hm
  have h1 : ¬ ((n : Int) < 0) := by omega
  have h4 : (n : Int) > 0 := by omega
  have hG63 : (G : Int) ≤ 9223372036854775807 := by unfold maxLen at hGm; omega
  clear hG hm hi0 hz0 hz1 hz2
  go_enter Try.func74, Try.ntmps74
  go_wp2_with (at_builtin; refine Lib.wpList_append_run _ rfl _ _ _ _ rfl _ _ rfl rfl _ _ (hrz _) ?_)
  all_goals (go_ret; exact ⟨G, hGn, hGm, m, Lib.hid HM.out.symm, rfl, rfl⟩)

theorem run_clear (g n m G : Nat) (h0 : 0 < n) (W : World) (ty : TypeId) (h : W.heap[g]? = some (.cells ((List.replicate n (Value.int .i8 0)).toArray ++ (List.replicate m (Value.int .i8 0)).toArray) 107 (0, 0))) :
    (Builtin.clear_ #[71] ty #[.slice (some ⟨g, 0, none⟩) n G]).run Try.prog W = .ok (.tuple #[]) W := by
  obtain ⟨i0, hi0, hz0, hz1, hz2⟩ := info_parts infoVer
  have hst := run_storeCells_at (P := Try.prog) g 0 107 (List.replicate n (Value.int .i8 0)) 0 _ W h (by simp) (by intro v hv; rw [List.eq_of_mem_replicate hv]; rfl)
  have e1 : ((((List.replicate n (Value.int .i8 0)).toArray ++ (List.replicate m (Value.int .i8 0)).toArray).toList.take (0 + 0) ++ List.replicate n (Value.int .i8 0) ++ ((List.replicate n (Value.int .i8 0)).toArray ++ (List.replicate m (Value.int .i8 0)).toArray).toList.drop (0 + 0 + (List.replicate n (Value.int .i8 0)).length))).toArray = (List.replicate n (Value.int .i8 0)).toArray ++ (List.replicate m (Value.int .i8 0)).toArray := by
    simp [List.drop_append]
  rw [e1, setRow_self W g _ _ (0, 0) h] at hst
  have hz : (Builtin.zeroCells (Value.int .i8 0).cells n).toList = List.replicate n (Value.int .i8 0) := by
    have e : (Value.int .i8 0).cells = #[Value.int .i8 0] := rfl
    rw [e, zeros_one]
  obtain ⟨n', rfl⟩ : ∃ n', n = n' + 1 := ⟨n - 1, by omega⟩
  simp [Builtin.clear_, run_underlying Try.underlying71, zeroValue, typeInfo, hi0, hz0, hz, hst]

theorem rowV_new {n m G g base : Nat} {w : World} (h : w.heap[g]? = some (.cells ((List.replicate n (Value.int .i8 0)).toArray ++ (List.replicate m (Value.int .i8 0)).toArray) 107 (0, 0))) (hm : m = G - n) (hn : n ≤ G) (hG : G ≤ maxLen) (hb : base ≤ g) : RowV base g n G (List.replicate n 0) w := by
  refine ⟨by simp, Or.inr ⟨g, G, _, rfl, hb, h, hn, hG, by simp; omega, by simp [List.take_append]⟩⟩

set_option maxRecDepth 100000 in
set_option maxHeartbeats 4000000 in
theorem start_calls (P : Nat) (o0 o1 oa ob : Value) (aa ab : Option Addr) (la lb ca cb : Nat) (w : World) (h0 : w.cell? ⟨P, 0, none⟩ = some oa) (h1 : w.cell? ⟨P, 1, none⟩ = some ob) (h2 : w.cell? ⟨P, 2, none⟩ = some (.slice none 0 0))
    (f0 : w.frozen? ⟨P, 0, none⟩ = false) (f1 : w.frozen? ⟨P, 1, none⟩ = false) (f2 : w.frozen? ⟨P, 2, none⟩ = false) (hla : 0 < la) (hlb : 0 < lb) (hla2 : la ≤ 200) (hlb2 : lb ≤ 200) :
    Calls Try.prog 46 #[.pointer (some ⟨P, 0, none⟩), .slice aa la ca, .slice ab lb cb] w fun e w' => ∃ G, e = .returned (.tuple #[]) ∧
      w'.cell? ⟨P, 0, none⟩ = some (.slice aa la ca) ∧ w'.cell? ⟨P, 1, none⟩ = some (.slice ab lb cb) ∧ w'.cell? ⟨P, 2, none⟩ = some (.slice (some ⟨w.heap.size, 0, none⟩) (2 * (la * lb)) G) ∧
      RowV w.heap.size w.heap.size (2 * (la * lb)) G (List.replicate (2 * (la * lb)) 0) w' ∧ Only w w' (fun b => b = P) := by
  obtain ⟨q, hq⟩ : ∃ q, 2 * (la * lb) = q := ⟨_, rfl⟩
  have hqb : q ≤ 80000 := by rw [← hq]; have := Nat.mul_le_mul hla2 hlb2; omega
  have hq0 : 0 < q := by rw [← hq]; have := Nat.mul_pos hla hlb; omega
  have hqi : 2 * (la : Int) * (lb : Int) = (q : Int) := by rw [← hq]; push_cast; rw [Int.mul_assoc]
  have hqa : (2 : Int) * (la : Int) ≤ 400 := by omega
  rw [hq]
  have hPb := block_of_cell h0
  go_enter Try.func46, Try.ntmps46
  go_wp2_with fail
  have e0 : ((w.setCell ⟨P, 0, none⟩ (.slice aa la ca)).setCell ⟨P, 1, none⟩ (.slice ab lb cb)).cell? ⟨P, 0, none⟩ = some (.slice aa la ca) := by
    rw [World.cell?_setCell_other _ _ _ _ (fun e => by injection e with _ e _; cases e)]
    exact World.cell?_setCell_same _ _ _ h0
  have e1 : ((w.setCell ⟨P, 0, none⟩ (.slice aa la ca)).setCell ⟨P, 1, none⟩ (.slice ab lb cb)).cell? ⟨P, 1, none⟩ = some (.slice ab lb cb) :=
    World.cell?_setCell_same _ _ _ ((World.cell?_setCell_other _ _ _ _ (fun e => by injection e with _ e _; cases e)).trans h1)
  have e2 : ((w.setCell ⟨P, 0, none⟩ (.slice aa la ca)).setCell ⟨P, 1, none⟩ (.slice ab lb cb)).cell? ⟨P, 2, none⟩ = some (.slice none 0 0) := by
    rw [World.cell?_setCell_other _ _ _ _ (fun e => by injection e with _ e _; cases e), World.cell?_setCell_other _ _ _ _ (fun e => by injection e with _ e _; cases e)]
    exact h2
  have e3 : ((w.setCell ⟨P, 0, none⟩ (.slice aa la ca)).setCell ⟨P, 1, none⟩ (.slice ab lb cb)).frozen? ⟨P, 2, none⟩ = false := by
    rw [World.frozen?_setCell, World.frozen?_setCell]; exact f2
  have e4 : ((w.setCell ⟨P, 0, none⟩ (.slice aa la ca)).setCell ⟨P, 1, none⟩ (.slice ab lb cb)).heap.size = w.heap.size := by simp
  have HO : Hid (Only w ((w.setCell ⟨P, 0, none⟩ (.slice aa la ca)).setCell ⟨P, 1, none⟩ (.slice ab lb cb)) (fun b => b = P)) := Lib.hid ((Only.of_set (F := fun b => b = P) _ rfl).trans (Only.of_set (F := fun b => b = P) _ rfl) (fun _ _ h => h))
  clear h0 h1 h2 f0 f1 f2
  refine (grow_calls q _ hq0 (by omega)).mono ?_
  generalize ((w.setCell ⟨P, 0, none⟩ (.slice aa la ca)).setCell ⟨P, 1, none⟩ (.slice ab lb cb)) = W0 at e0 e1 e2 e3 e4 HO ⊢
  rintro e w4 ⟨G, m, hG1, hG2, hm, rfl, hw4⟩
  rw [e4]
  have hb4 : Below W0.heap.size W0 w4 := by rw [hw4]; exact (below_drewN (Below.refl _ _) 1).alloc (Nat.le_refl _) _
  have hh4 : w4.heap[w.heap.size]? = some (.cells ((List.replicate q (Value.int .i8 0)).toArray ++ (List.replicate m (Value.int .i8 0)).toArray) 107 (0, 0)) := by
    rw [hw4, ← e4]
    exact heap_alloc_last W0.drew _
  have hs4 : w4.heap.size = w.heap.size + 1 := by rw [hw4, ← e4]; simp
  have e0 := (bcell hb4 _ _ (by omega)).trans e0
  have e1 := (bcell hb4 _ _ (by omega)).trans e1
  have e2 := (bcell hb4 _ _ (by omega)).trans e2
  have e3 := (hb4.frozen (p := ⟨P, 2, none⟩) (by rw [e4]; exact hPb)).trans e3
  have HO4 : Hid (Only w w4 (fun b => b = P)) := Lib.hid (HO.out.trans (Only.of_below hb4) (fun _ _ h => h))
  have hG63 : (G : Int) ≤ 9223372036854775807 := by unfold maxLen at hG2; omega
  have hqG : (q : Int) ≤ G := by omega
  clear hw4 hb4 HO
  have hne : w.heap.size ≠ P := by omega
  have hh5 : (w4.setCell ⟨P, 2, none⟩ (.slice (some ⟨w.heap.size, 0, none⟩) q G)).heap[w.heap.size]? = some (.cells ((List.replicate q (Value.int .i8 0)).toArray ++ (List.replicate m (Value.int .i8 0)).toArray) 107 (0, 0)) :=
    (Below.heap_setCell w4 ⟨P, 2, none⟩ _ w.heap.size hne).trans hh4
  have HCL := run_clear w.heap.size q m G hq0 (w4.setCell ⟨P, 2, none⟩ (.slice (some ⟨w.heap.size, 0, none⟩) q G)) 0 hh5
  have HR := Lib.hid (rowV_new (base := w.heap.size) hh5 hm.out hG1 hG2 (Nat.le_refl _))
  have HO5 : Hid (Only w (w4.setCell ⟨P, 2, none⟩ (.slice (some ⟨w.heap.size, 0, none⟩) q G)) (fun b => b = P)) := Lib.hid (HO4.out.trans (Only.of_set (F := fun b => b = P) _ rfl) (fun _ _ h => h))
  have e5 : Hid ((w4.setCell ⟨P, 2, none⟩ (.slice (some ⟨w.heap.size, 0, none⟩) q G)).cell? ⟨P, 0, none⟩ = some (.slice aa la ca)) := Lib.hid ((World.cell?_setCell_other _ _ _ _ (fun e => by injection e with _ e _; cases e)).trans e0)
  have e6 : Hid ((w4.setCell ⟨P, 2, none⟩ (.slice (some ⟨w.heap.size, 0, none⟩) q G)).cell? ⟨P, 1, none⟩ = some (.slice ab lb cb)) := Lib.hid ((World.cell?_setCell_other _ _ _ _ (fun e => by injection e with _ e _; cases e)).trans e1)
  have e7 : Hid ((w4.setCell ⟨P, 2, none⟩ (.slice (some ⟨w.heap.size, 0, none⟩) q G)).cell? ⟨P, 2, none⟩ = some (.slice (some ⟨w.heap.size, 0, none⟩) q G)) := Lib.hid (World.cell?_setCell_same _ _ _ e2)
  clear hh4 hh5 HO4 e0 e1
  go_wp2_with fail
  go_end0
  exact ⟨G, rfl, e5.out, e6.out, e7.out, HR.out, HO5.out⟩
end

section
open Go.RowKit
set_option linter.unusedVariables false
set_option linter.unusedSimpArgs false

set_option maxRecDepth 100000 in
set_option maxHeartbeats 4000000 in
/-- there is room -/
theorem growV_room (g cap n : Nat) (w : World) (hn : n ≤ cap) (hcap : cap ≤ maxLen) :
    Calls Try.prog 74 #[.slice (some ⟨g, 0, none⟩) 0 cap, .int .i64 n] w fun e w' => e = .returned (.slice (some ⟨g, 0, none⟩) 0 cap) ∧ w' = w := by
  have h1 : ¬ ((n : Int) < 0) := by omega
  have hc : (cap : Int) ≤ 9223372036854775807 := by unfold maxLen at hcap; omega
  have h2 : IntKind.i64.wrap ((n : Int) - cap) = (n : Int) - cap := IntWalk.i64_in _ (by omega)
  have h2b : IntKind.i64.wrap (cap : Int) = cap := IntWalk.i64_in _ (by omega)
  have h3 : ¬ ((n : Int) - cap > 0) := by omega
  clear hcap hn
  go_enter Try.func74, Try.ntmps74
  go_wp2
  go_ret
  exact ⟨rfl, rfl⟩

set_option maxRecDepth 100000 in
set_option maxHeartbeats 4000000 in
/-- there is none -/
theorem growV_more (g cap n : Nat) (cur : Array Value) (w : World) (hg : w.heap[g]? = some (.cells cur 107 (0, 0))) (hs : cur.size = cap) (hlt : cap < n) (hn : n ≤ 100000) :
    Calls Try.prog 74 #[.slice (some ⟨g, 0, none⟩) 0 cap, .int .i64 n] w fun e w' => ∃ G xs, n ≤ G ∧ G ≤ maxLen ∧ Hid (xs.size = G) ∧ e = .returned (.slice (some ⟨w.heap.size, 0, none⟩) 0 G) ∧
      w' = w.drew.alloc (.cells xs 107) := by
  obtain ⟨i0, hi0, hz0, hz1, hz2⟩ := info_parts infoVer
  obtain ⟨d, hd⟩ : ∃ d, n - cap = d := ⟨_, rfl⟩
  have hold : (Builtin.firstCells i0.size cap (.slice (some ⟨g, 0, none⟩) cap cap)).run Try.prog w.drew = .ok cur.toList.toArray w.drew := run_firstCells_some (P := Try.prog) (w := w.drew) i0.size cap ⟨g, 0, none⟩ cap cap cur.toList (by rw [hz1, Array.length_toList, hs, Nat.mul_one]) (fun j v hj => by
    have h0 : w.drew.cell? ⟨g, j, none⟩ = cur[j]? := cell_of_row w.drew g j cur _ (0, 0) hg
    have e : ((⟨g, 0, none⟩ : Addr).add j) = ⟨g, j, none⟩ := by unfold Addr.add; split <;> simp_all
    rw [e, h0]
    simpa using hj)
  have hrz : ∀ ty, (Builtin.append_ #[71, 3] ty #[.slice (some ⟨g, 0, none⟩) cap cap, .int .i64 (d : Int)]).run Try.prog w =
      .ok (.slice (some ⟨w.heap.size, 0, none⟩) n (grownCap w n cap 107)) (w.drew.alloc (.cells (cur.toList.toArray ++ Builtin.zeroCells (Value.int .i8 0).cells d ++ Builtin.zeroCells (Value.int .i8 0).cells (grownCap w n cap 107 - n)) 107)) := fun ty => by
    have h := Lib.run_append_grow_zeros w 71 3 ty 107 i0 (.int .i8 0) .i64 .i64 Try.underlying71 Try.underlying3 hi0 hz0 (some ⟨g, 0, none⟩) cap cap cur.toList hold d (by omega) (by omega) (by omega) (by omega)
      (by rw [hz2]; omega) (growslice_fits (by omega) (by rw [hz2]; omega))
    rw [show cap + d = n by omega] at h
    exact h
  have hGn : n ≤ grownCap w n cap 107 := grownCap_ge w _ _ _
  have hGm := grownCap_le_maxLen w n cap 107 (by unfold maxLen; omega)
  obtain ⟨G, hG⟩ : ∃ G, grownCap w n cap 107 = G := ⟨_, rfl⟩
  rw [hG] at hrz hGn hGm
  have hsz : (cur.toList.toArray ++ Builtin.zeroCells (Value.int .i8 0).cells d ++ Builtin.zeroCells (Value.int .i8 0).cells (G - n)).size = G := by
    have e : (Value.int .i8 0).cells = #[Value.int .i8 0] := rfl
    rw [e, zeros_one, zeros_one]
    simp
    omega
  have HS := Lib.hid hsz
  generalize (cur.toList.toArray ++ Builtin.zeroCells (Value.int .i8 0).cells d ++ Builtin.zeroCells (Value.int .i8 0).cells (G - n)) = xs at hrz HS
  have h1 : ¬ ((n : Int) < 0) := by omega
  have h2 : IntKind.i64.wrap ((n : Int) - cap) = (d : Int) := by rw [IntWalk.i64_in _ (by omega)]; omega
  have h2b : IntKind.i64.wrap (cap : Int) = cap := IntWalk.i64_in _ (by omega)
  have h3 : (d : Int) > 0 := by omega
  have hG63 : (G : Int) ≤ 9223372036854775807 := by unfold maxLen at hGm; omega
  clear hG hd hsz hold hi0 hz0 hz1 hz2 hg hs
  go_enter Try.func74, Try.ntmps74
  go_wp2_with (at_builtin; refine Lib.wpList_append_run _ rfl _ _ _ _ rfl _ _ rfl rfl _ _ (hrz _) ?_)
  all_goals (go_ret; exact ⟨G, hGn, hGm, xs, HS, rfl, rfl⟩)
end

section
open Go.RowKit Go.Lib
set_option linter.unusedVariables false
set_option linter.unusedSimpArgs false

theorem growV_calls (g cap n : Nat) (cur : Array Value) (w : World) (hg : w.heap[g]? = some (.cells cur 107 (0, 0))) (hs : cur.size = cap) (hcap : cap ≤ maxLen) (hn : n ≤ 100000) :
    Calls Try.prog 74 #[.slice (some ⟨g, 0, none⟩) 0 cap, .int .i64 n] w fun e w' => ∃ g' G xs, n ≤ G ∧ G ≤ maxLen ∧ Hid (xs.size = G) ∧ e = .returned (.slice (some ⟨g', 0, none⟩) 0 G) ∧
      w'.heap[g']? = some (.cells xs 107 (0, 0)) ∧ (g' = g ∨ g' = w.heap.size) ∧ Below w.heap.size w w' := by
  rcases Nat.lt_or_ge cap n with h | h
  · refine (growV_more g cap n cur w hg hs h hn).mono ?_
    rintro e w' ⟨G, xs, h1, h2, h3, rfl, rfl⟩
    exact ⟨w.heap.size, G, xs, h1, h2, h3, rfl, heap_alloc_last w.drew _, Or.inr rfl, (below_drewN (Below.refl _ _) 1).alloc (Nat.le_refl _) _⟩
  · refine (growV_room g cap n w h hcap).mono ?_
    rintro e w' ⟨rfl, rfl⟩
    exact ⟨g, cap, cur, h, hcap, Lib.hid hs, rfl, hg, Or.inl rfl, Below.refl _ _⟩

theorem run_clear_any (g n G : Nat) (xs : Array Value) (h0 : 0 < n) (hn : n ≤ xs.size) (W : World) (ty : TypeId) (h : W.heap[g]? = some (.cells xs 107 (0, 0))) :
    (Builtin.clear_ #[71] ty #[.slice (some ⟨g, 0, none⟩) n G]).run Try.prog W = .ok (.tuple #[]) (W.setRow g (List.replicate n (Value.int .i8 0) ++ xs.toList.drop n).toArray) := by
  obtain ⟨i0, hi0, hz0, hz1, hz2⟩ := info_parts infoVer
  have hst := run_storeCells_at (P := Try.prog) g 0 107 (List.replicate n (Value.int .i8 0)) 0 _ W h (by simpa using hn) (by intro v hv; rw [List.eq_of_mem_replicate hv]; rfl)
  have e1 : ((xs.toList.take (0 + 0) ++ List.replicate n (Value.int .i8 0) ++ xs.toList.drop (0 + 0 + (List.replicate n (Value.int .i8 0)).length))).toArray = (List.replicate n (Value.int .i8 0) ++ xs.toList.drop n).toArray := by
    simp
  rw [e1] at hst
  have hz : (Builtin.zeroCells (Value.int .i8 0).cells n).toList = List.replicate n (Value.int .i8 0) := by
    have e : (Value.int .i8 0).cells = #[Value.int .i8 0] := rfl
    rw [e, zeros_one]
  obtain ⟨n', rfl⟩ : ∃ n', n = n' + 1 := ⟨n - 1, by omega⟩
  generalize (List.replicate (n' + 1) (Value.int .i8 0) ++ xs.toList.drop (n' + 1)).toArray = R at hst ⊢
  simp [Builtin.clear_, run_underlying Try.underlying71, zeroValue, typeInfo, hi0, hz0, hz, hst]

theorem rowV_clear {n G g base : Nat} {xs : Array Value} {w : World} (h : w.heap[g]? = some (.cells xs 107 (0, 0))) (hm : xs.size = G) (hn : n ≤ G) (hG : G ≤ maxLen) (hb : base ≤ g) :
    RowV base g n G (List.replicate n 0) (w.setRow g (List.replicate n (Value.int .i8 0) ++ xs.toList.drop n).toArray) := by
  refine ⟨by simp, Or.inr ⟨g, G, _, rfl, hb, setRow_heap w g xs _ _ (0, 0) h, hn, hG, by simp; omega, by simp [List.take_append]⟩⟩

theorem Only.of_row {w : World} {F : Nat → Prop} {g : Nat} (cs : Array Value) (hF : F g) : Only w (w.setRow g cs) F :=
  ⟨rfl, rfl, rfl, by simp, fun i _ hn => setRow_other w g i cs (fun e => hn (e ▸ hF))⟩

theorem fz_set (w : World) (p : Addr) (u : Value) (P o : Nat) : (w.setCell p u).frozen? ⟨P, o, none⟩ = w.frozen? ⟨P, o, none⟩ := by rw [World.frozen?_setCell]

set_option maxRecDepth 100000 in
set_option maxHeartbeats 4000000 in
theorem again_calls (P g l cap base : Nat) (cur : Array Value) (o0 o1 : Value) (aa ab : Option Addr) (la lb ca cb : Nat) (w : World) (h0 : w.cell? ⟨P, 0, none⟩ = some o0) (h1 : w.cell? ⟨P, 1, none⟩ = some o1) (h2 : w.cell? ⟨P, 2, none⟩ = some (.slice (some ⟨g, 0, none⟩) l cap))
    (f0 : w.frozen? ⟨P, 0, none⟩ = false) (f1 : w.frozen? ⟨P, 1, none⟩ = false) (f2 : w.frozen? ⟨P, 2, none⟩ = false) (hg : w.heap[g]? = some (.cells cur 107 (0, 0))) (hs : cur.size = cap) (hcap : cap ≤ maxLen) (hgP : g ≠ P) (hbg : base ≤ g) (hbw : base ≤ w.heap.size)
    (hla : 0 < la) (hlb : 0 < lb) (hla2 : la ≤ 200) (hlb2 : lb ≤ 200) :
    Calls Try.prog 46 #[.pointer (some ⟨P, 0, none⟩), .slice aa la ca, .slice ab lb cb] w fun e w' => ∃ g' G, e = .returned (.tuple #[]) ∧
      w'.cell? ⟨P, 0, none⟩ = some (.slice aa la ca) ∧ w'.cell? ⟨P, 1, none⟩ = some (.slice ab lb cb) ∧ w'.cell? ⟨P, 2, none⟩ = some (.slice (some ⟨g', 0, none⟩) (2 * (la * lb)) G) ∧ g' ≠ P ∧ (g' = g ∨ w.heap.size ≤ g') ∧
      RowV base g' (2 * (la * lb)) G (List.replicate (2 * (la * lb)) 0) w' ∧ Only w w' (fun b => b = P ∨ b = g) ∧ ∀ o, w'.frozen? ⟨P, o, none⟩ = w.frozen? ⟨P, o, none⟩ := by
  obtain ⟨q, hq⟩ : ∃ q, 2 * (la * lb) = q := ⟨_, rfl⟩
  have hqb : q ≤ 80000 := by rw [← hq]; have := Nat.mul_le_mul hla2 hlb2; omega
  have hq0 : 0 < q := by rw [← hq]; have := Nat.mul_pos hla hlb; omega
  have hqi : 2 * (la : Int) * (lb : Int) = (q : Int) := by rw [← hq]; push_cast; rw [Int.mul_assoc]
  have hqa : (2 : Int) * (la : Int) ≤ 400 := by omega
  rw [hq]
  have hPb := block_of_cell h0
  have hgw : g < w.heap.size := (Array.getElem?_eq_some_iff.1 hg).1
  go_enter Try.func46, Try.ntmps46
  go_wp2_with fail
  have e0 : ((w.setCell ⟨P, 0, none⟩ (.slice aa la ca)).setCell ⟨P, 1, none⟩ (.slice ab lb cb)).cell? ⟨P, 0, none⟩ = some (.slice aa la ca) := by
    rw [World.cell?_setCell_other _ _ _ _ (fun e => by injection e with _ e _; cases e)]
    exact World.cell?_setCell_same _ _ _ h0
  have e1 : ((w.setCell ⟨P, 0, none⟩ (.slice aa la ca)).setCell ⟨P, 1, none⟩ (.slice ab lb cb)).cell? ⟨P, 1, none⟩ = some (.slice ab lb cb) :=
    World.cell?_setCell_same _ _ _ ((World.cell?_setCell_other _ _ _ _ (fun e => by injection e with _ e _; cases e)).trans h1)
  have e2 : ((w.setCell ⟨P, 0, none⟩ (.slice aa la ca)).setCell ⟨P, 1, none⟩ (.slice ab lb cb)).cell? ⟨P, 2, none⟩ = some (.slice (some ⟨g, 0, none⟩) l cap) := by
    rw [World.cell?_setCell_other _ _ _ _ (fun e => by injection e with _ e _; cases e), World.cell?_setCell_other _ _ _ _ (fun e => by injection e with _ e _; cases e)]
    exact h2
  have e3 : ((w.setCell ⟨P, 0, none⟩ (.slice aa la ca)).setCell ⟨P, 1, none⟩ (.slice ab lb cb)).frozen? ⟨P, 2, none⟩ = false := by
    rw [World.frozen?_setCell, World.frozen?_setCell]; exact f2
  have e4 : ((w.setCell ⟨P, 0, none⟩ (.slice aa la ca)).setCell ⟨P, 1, none⟩ (.slice ab lb cb)).heap.size = w.heap.size := by simp
  have e5 : ((w.setCell ⟨P, 0, none⟩ (.slice aa la ca)).setCell ⟨P, 1, none⟩ (.slice ab lb cb)).heap[g]? = some (.cells cur 107 (0, 0)) :=
    (Below.heap_setCell _ ⟨P, 1, none⟩ _ g hgP).trans ((Below.heap_setCell w ⟨P, 0, none⟩ _ g hgP).trans hg)
  have HO : Hid (Only w ((w.setCell ⟨P, 0, none⟩ (.slice aa la ca)).setCell ⟨P, 1, none⟩ (.slice ab lb cb)) (fun b => b = P)) := Lib.hid ((Only.of_set (F := fun b => b = P) _ rfl).trans (Only.of_set (F := fun b => b = P) _ rfl) (fun _ _ h => h))
  have HF0 : Hid (∀ o, ((w.setCell ⟨P, 0, none⟩ (.slice aa la ca)).setCell ⟨P, 1, none⟩ (.slice ab lb cb)).frozen? ⟨P, o, none⟩ = w.frozen? ⟨P, o, none⟩) := Lib.hid fun o => by rw [World.frozen?_setCell, World.frozen?_setCell]
  clear h0 h1 h2 f0 f1 f2 hg
  refine (growV_calls g cap q cur _ e5 hs hcap (by omega)).mono ?_
  generalize ((w.setCell ⟨P, 0, none⟩ (.slice aa la ca)).setCell ⟨P, 1, none⟩ (.slice ab lb cb)) = W0 at e0 e1 e2 e3 e4 e5 HO HF0 ⊢
  rintro e w4 ⟨g', G, xs, hG1, hG2, hm, rfl, hh4, hg', hb4⟩
  rw [e4] at hg'
  have e0 := (bcell hb4 _ _ (by omega)).trans e0
  have e1 := (bcell hb4 _ _ (by omega)).trans e1
  have e2 := (bcell hb4 _ _ (by omega)).trans e2
  have e3 := (hb4.frozen (p := ⟨P, 2, none⟩) (by rw [e4]; exact hPb)).trans e3
  have HO4 : Hid (Only w w4 (fun b => b = P)) := Lib.hid (HO.out.trans (Only.of_below hb4) (fun _ _ h => h))
  have HF4 : Hid (∀ o, w4.frozen? ⟨P, o, none⟩ = w.frozen? ⟨P, o, none⟩) := Lib.hid fun o => (hb4.frozen (p := ⟨P, o, none⟩) (by rw [e4]; exact hPb)).trans (HF0.out o)
  clear HF0
  have hG63 : (G : Int) ≤ 9223372036854775807 := by unfold maxLen at hG2; omega
  have hqG : (q : Int) ≤ G := by omega
  have hne : g' ≠ P := by rcases hg' with h | h <;> omega
  have hbg' : base ≤ g' := by rcases hg' with h | h <;> omega
  have hgs : Hid (g' = g ∨ w.heap.size ≤ g') := Lib.hid (by rcases hg' with h | h <;> omega)
  clear hb4 HO hcap
  have hh5 : (w4.setCell ⟨P, 2, none⟩ (.slice (some ⟨g', 0, none⟩) q G)).heap[g']? = some (.cells xs 107 (0, 0)) :=
    (Below.heap_setCell w4 ⟨P, 2, none⟩ _ g' hne).trans hh4
  have HCL := run_clear_any g' q G xs hq0 (by rw [hm.out]; exact hG1) (w4.setCell ⟨P, 2, none⟩ (.slice (some ⟨g', 0, none⟩) q G)) 0 hh5
  have HR := Lib.hid (rowV_clear (base := base) hh5 hm.out hG1 hG2 hbg')
  generalize hRR : (List.replicate q (Value.int .i8 0) ++ xs.toList.drop q).toArray = RR at HCL HR
  have HO5 : Hid (Only w ((w4.setCell ⟨P, 2, none⟩ (.slice (some ⟨g', 0, none⟩) q G)).setRow g' RR) (fun b => b = P ∨ b = g)) := Lib.hid (by
    refine ((HO4.out.trans (Only.of_set (F := fun b => b = P) _ rfl) (fun _ _ h => h)).mono (fun i _ h => Or.inl h)).trans (Only.of_row (F := fun b => b = g') RR rfl) ?_
    intro i hi hig
    rcases hgs.out with h | h
    · exact Or.inr (hig.trans h)
    · omega)
  have hne2 : P ≠ g' := fun h => hne h.symm
  have HF5 : Hid (∀ o, ((w4.setCell ⟨P, 2, none⟩ (.slice (some ⟨g', 0, none⟩) q G)).setRow g' RR).frozen? ⟨P, o, none⟩ = w.frozen? ⟨P, o, none⟩) := Lib.hid fun o => (World.frozen?_of_block (a := ⟨P, o, none⟩) (setRow_other _ g' P RR hne2)).trans ((fz_set _ _ _ P o).trans (HF4.out o))
  have e5 : Hid (((w4.setCell ⟨P, 2, none⟩ (.slice (some ⟨g', 0, none⟩) q G)).setRow g' RR).cell? ⟨P, 0, none⟩ = some (.slice aa la ca)) := Lib.hid ((cell_setRow_other _ g' RR ⟨P, 0, none⟩ hne2).trans ((World.cell?_setCell_other _ _ _ _ (fun e => by injection e with _ e _; cases e)).trans e0))
  have e6 : Hid (((w4.setCell ⟨P, 2, none⟩ (.slice (some ⟨g', 0, none⟩) q G)).setRow g' RR).cell? ⟨P, 1, none⟩ = some (.slice ab lb cb)) := Lib.hid ((cell_setRow_other _ g' RR ⟨P, 1, none⟩ hne2).trans ((World.cell?_setCell_other _ _ _ _ (fun e => by injection e with _ e _; cases e)).trans e1))
  have e7 : Hid (((w4.setCell ⟨P, 2, none⟩ (.slice (some ⟨g', 0, none⟩) q G)).setRow g' RR).cell? ⟨P, 2, none⟩ = some (.slice (some ⟨g', 0, none⟩) q G)) := Lib.hid ((cell_setRow_other _ g' RR ⟨P, 2, none⟩ hne2).trans (World.cell?_setCell_same _ _ _ e2))
  clear hh4 hh5 HO4 e0 e1 hg' HF4
  go_wp2_with fail
  go_end0
  exact ⟨g', G, rfl, e5.out, e6.out, e7.out, hne, hgs.out, HR.out, HO5.out, HF5.out⟩

set_option maxRecDepth 100000 in
set_option maxHeartbeats 4000000 in
theorem startN_calls (P base : Nat) (oa ob : Value) (aa ab : Option Addr) (la lb ca cb : Nat) (w : World) (h0 : w.cell? ⟨P, 0, none⟩ = some oa) (h1 : w.cell? ⟨P, 1, none⟩ = some ob) (h2 : w.cell? ⟨P, 2, none⟩ = some (.slice none 0 0))
    (f0 : w.frozen? ⟨P, 0, none⟩ = false) (f1 : w.frozen? ⟨P, 1, none⟩ = false) (f2 : w.frozen? ⟨P, 2, none⟩ = false) (hbw : base ≤ w.heap.size) (hla : 0 < la) (hlb : 0 < lb) (hla2 : la ≤ 200) (hlb2 : lb ≤ 200) :
    Calls Try.prog 46 #[.pointer (some ⟨P, 0, none⟩), .slice aa la ca, .slice ab lb cb] w fun e w' => ∃ G, e = .returned (.tuple #[]) ∧
      w'.cell? ⟨P, 0, none⟩ = some (.slice aa la ca) ∧ w'.cell? ⟨P, 1, none⟩ = some (.slice ab lb cb) ∧ w'.cell? ⟨P, 2, none⟩ = some (.slice (some ⟨w.heap.size, 0, none⟩) (2 * (la * lb)) G) ∧
      RowV base w.heap.size (2 * (la * lb)) G (List.replicate (2 * (la * lb)) 0) w' ∧ Only w w' (fun b => b = P) ∧ ∀ o, w'.frozen? ⟨P, o, none⟩ = w.frozen? ⟨P, o, none⟩ := by
  obtain ⟨q, hq⟩ : ∃ q, 2 * (la * lb) = q := ⟨_, rfl⟩
  have hqb : q ≤ 80000 := by rw [← hq]; have := Nat.mul_le_mul hla2 hlb2; omega
  have hq0 : 0 < q := by rw [← hq]; have := Nat.mul_pos hla hlb; omega
  have hqi : 2 * (la : Int) * (lb : Int) = (q : Int) := by rw [← hq]; push_cast; rw [Int.mul_assoc]
  have hqa : (2 : Int) * (la : Int) ≤ 400 := by omega
  rw [hq]
  have hPb := block_of_cell h0
  go_enter Try.func46, Try.ntmps46
  go_wp2_with fail
  have e0 : ((w.setCell ⟨P, 0, none⟩ (.slice aa la ca)).setCell ⟨P, 1, none⟩ (.slice ab lb cb)).cell? ⟨P, 0, none⟩ = some (.slice aa la ca) := by
    rw [World.cell?_setCell_other _ _ _ _ (fun e => by injection e with _ e _; cases e)]
    exact World.cell?_setCell_same _ _ _ h0
  have e1 : ((w.setCell ⟨P, 0, none⟩ (.slice aa la ca)).setCell ⟨P, 1, none⟩ (.slice ab lb cb)).cell? ⟨P, 1, none⟩ = some (.slice ab lb cb) :=
    World.cell?_setCell_same _ _ _ ((World.cell?_setCell_other _ _ _ _ (fun e => by injection e with _ e _; cases e)).trans h1)
  have e2 : ((w.setCell ⟨P, 0, none⟩ (.slice aa la ca)).setCell ⟨P, 1, none⟩ (.slice ab lb cb)).cell? ⟨P, 2, none⟩ = some (.slice none 0 0) := by
    rw [World.cell?_setCell_other _ _ _ _ (fun e => by injection e with _ e _; cases e), World.cell?_setCell_other _ _ _ _ (fun e => by injection e with _ e _; cases e)]
    exact h2
  have e3 : ((w.setCell ⟨P, 0, none⟩ (.slice aa la ca)).setCell ⟨P, 1, none⟩ (.slice ab lb cb)).frozen? ⟨P, 2, none⟩ = false := by
    rw [World.frozen?_setCell, World.frozen?_setCell]; exact f2
  have e4 : ((w.setCell ⟨P, 0, none⟩ (.slice aa la ca)).setCell ⟨P, 1, none⟩ (.slice ab lb cb)).heap.size = w.heap.size := by simp
  have HO : Hid (Only w ((w.setCell ⟨P, 0, none⟩ (.slice aa la ca)).setCell ⟨P, 1, none⟩ (.slice ab lb cb)) (fun b => b = P)) := Lib.hid ((Only.of_set (F := fun b => b = P) _ rfl).trans (Only.of_set (F := fun b => b = P) _ rfl) (fun _ _ h => h))
  have HF0 : Hid (∀ o, ((w.setCell ⟨P, 0, none⟩ (.slice aa la ca)).setCell ⟨P, 1, none⟩ (.slice ab lb cb)).frozen? ⟨P, o, none⟩ = w.frozen? ⟨P, o, none⟩) := Lib.hid fun o => by rw [World.frozen?_setCell, World.frozen?_setCell]
  clear h0 h1 h2 f0 f1 f2
  refine (grow_calls q _ hq0 (by omega)).mono ?_
  generalize ((w.setCell ⟨P, 0, none⟩ (.slice aa la ca)).setCell ⟨P, 1, none⟩ (.slice ab lb cb)) = W0 at e0 e1 e2 e3 e4 HO HF0 ⊢
  rintro e w4 ⟨G, m, hG1, hG2, hm, rfl, hw4⟩
  rw [e4]
  have hb4 : Below W0.heap.size W0 w4 := by rw [hw4]; exact (below_drewN (Below.refl _ _) 1).alloc (Nat.le_refl _) _
  have hh4 : w4.heap[w.heap.size]? = some (.cells ((List.replicate q (Value.int .i8 0)).toArray ++ (List.replicate m (Value.int .i8 0)).toArray) 107 (0, 0)) := by
    rw [hw4, ← e4]
    exact heap_alloc_last W0.drew _
  have hs4 : w4.heap.size = w.heap.size + 1 := by rw [hw4, ← e4]; simp
  have e0 := (bcell hb4 _ _ (by omega)).trans e0
  have e1 := (bcell hb4 _ _ (by omega)).trans e1
  have e2 := (bcell hb4 _ _ (by omega)).trans e2
  have e3 := (hb4.frozen (p := ⟨P, 2, none⟩) (by rw [e4]; exact hPb)).trans e3
  have HO4 : Hid (Only w w4 (fun b => b = P)) := Lib.hid (HO.out.trans (Only.of_below hb4) (fun _ _ h => h))
  have HF4 : Hid (∀ o, w4.frozen? ⟨P, o, none⟩ = w.frozen? ⟨P, o, none⟩) := Lib.hid fun o => (hb4.frozen (p := ⟨P, o, none⟩) (by rw [e4]; exact hPb)).trans (HF0.out o)
  clear HF0
  have hG63 : (G : Int) ≤ 9223372036854775807 := by unfold maxLen at hG2; omega
  have hqG : (q : Int) ≤ G := by omega
  clear hw4 hb4 HO
  have hne : w.heap.size ≠ P := by omega
  have hh5 : (w4.setCell ⟨P, 2, none⟩ (.slice (some ⟨w.heap.size, 0, none⟩) q G)).heap[w.heap.size]? = some (.cells ((List.replicate q (Value.int .i8 0)).toArray ++ (List.replicate m (Value.int .i8 0)).toArray) 107 (0, 0)) :=
    (Below.heap_setCell w4 ⟨P, 2, none⟩ _ w.heap.size hne).trans hh4
  have HCL := run_clear w.heap.size q m G hq0 (w4.setCell ⟨P, 2, none⟩ (.slice (some ⟨w.heap.size, 0, none⟩) q G)) 0 hh5
  have HR := Lib.hid (rowV_new (base := base) hh5 hm.out hG1 hG2 hbw)
  have HO5 : Hid (Only w (w4.setCell ⟨P, 2, none⟩ (.slice (some ⟨w.heap.size, 0, none⟩) q G)) (fun b => b = P)) := Lib.hid (HO4.out.trans (Only.of_set (F := fun b => b = P) _ rfl) (fun _ _ h => h))
  have HF5 : Hid (∀ o, (w4.setCell ⟨P, 2, none⟩ (.slice (some ⟨w.heap.size, 0, none⟩) q G)).frozen? ⟨P, o, none⟩ = w.frozen? ⟨P, o, none⟩) := Lib.hid fun o => (fz_set _ _ _ P o).trans (HF4.out o)
  have e5 : Hid ((w4.setCell ⟨P, 2, none⟩ (.slice (some ⟨w.heap.size, 0, none⟩) q G)).cell? ⟨P, 0, none⟩ = some (.slice aa la ca)) := Lib.hid ((World.cell?_setCell_other _ _ _ _ (fun e => by injection e with _ e _; cases e)).trans e0)
  have e6 : Hid ((w4.setCell ⟨P, 2, none⟩ (.slice (some ⟨w.heap.size, 0, none⟩) q G)).cell? ⟨P, 1, none⟩ = some (.slice ab lb cb)) := Lib.hid ((World.cell?_setCell_other _ _ _ _ (fun e => by injection e with _ e _; cases e)).trans e1)
  have e7 : Hid ((w4.setCell ⟨P, 2, none⟩ (.slice (some ⟨w.heap.size, 0, none⟩) q G)).cell? ⟨P, 2, none⟩ = some (.slice (some ⟨w.heap.size, 0, none⟩) q G)) := Lib.hid (World.cell?_setCell_same _ _ _ e2)
  clear hh4 hh5 HO4 e0 e1 HF4
  go_wp2_with fail
  go_end0
  exact ⟨G, rfl, e5.out, e6.out, e7.out, HR.out, HO5.out, HF5.out⟩
end

section
open Go.RowKit Go.Lib
set_option linter.unusedVariables false
set_option linter.unusedSimpArgs false

set_option maxHeartbeats 1000000 in
theorem outcomeAt_calls (base P g n cap : Nat) (A B : List Nd) (va vb : Value) (hA : Under A) (hB : Under B) (hAl : A.length ≤ 1000) (hBl : B.length ≤ 1000) (i j : Nat) (hi : i < A.length) (hj : j < B.length) (w : World)
    (h : Ct w base P g n cap A B va vb) (cs : List Int) (hw : Wn A B cs) (hr : RowV base g n cap cs w) (r l : Bool) (hl : Hid (winF A B i j true = l)) (hres : Hid (winF A B i j false = r)) :
    Calls Try.prog 70 #[.pointer (some ⟨P, 0, none⟩), .int .i64 (i : Int), .int .i64 (j : Int)] w fun e w' => e = .returned (.int .i64 (codeOf (!r) (!l))) ∧ Asked base g n cap A B w w' := by
  have C := Lib.hid <| (wins_calls base P g n cap A B va vb hA hB hAl hBl (i + j + 1) i j true cs w (by omega) hi hj h hw hr).mono fun e w' hp => (⟨by rw [← hl.out]; exact hp.1, hp.2⟩ : e = .returned (.bool l) ∧ Asked base g n cap A B w w')
  have C2 := Lib.hid fun w4 (ha : Asked base g n cap A B w w4) => show Calls Try.prog 58 #[.pointer (some ⟨P, 0, none⟩), .int .i64 (i : Int), .int .i64 (j : Int), .bool false] w4 fun e w' => e = .returned (.bool r) ∧ Asked base g n cap A B w w' from by
    have hc := h.only ha.only
    have ha2 := ha
    obtain ⟨cs', hw', hr', ho'⟩ := ha
    exact (wins_calls base P g n cap A B va vb hA hB hAl hBl (i + j + 1) i j false cs' w4 (by omega) hi hj hc hw' hr').mono fun e w' hp => ⟨by rw [← hres.out]; exact hp.1, ha2.trans hp.2⟩
  have R := Lib.hid (code_win l r)
  clear h hw hr hl hres hA hB hi hj
  cases l <;> cases r <;>
  · go_enter Try.func70, Try.ntmps70
    go_wp2_with fail
    refine C.out.mono ?_
    rintro e w4 ⟨rfl, ha⟩
    have C3 := Lib.hid (C2.out w4 ha)
    clear ha
    go_wp2_with fail
    refine C3.out.mono ?_
    rintro e w5 ⟨rfl, ha⟩
    have HA := Lib.hid ha
    clear ha
    go_wp2_with fail
    go_ret
    exact ⟨ret_int (by rw [R.out]; rfl), HA.out⟩

set_option maxHeartbeats 1000000 in
theorem outcome_calls (base P g n cap : Nat) (A B : List Nd) (va vb : Value) (hA : Under A) (hB : Under B) (hAl : A.length ≤ 1000) (hBl : B.length ≤ 1000) (w : World) (h0 : 0 < A.length) (h1 : 0 < B.length)
    (h : Ct w base P g n cap A B va vb) (cs : List Int) (hw : Wn A B cs) (hr : RowV base g n cap cs w) (r l : Bool) (hl : Hid (winF A B (A.length - 1) (B.length - 1) true = l)) (hres : Hid (winF A B (A.length - 1) (B.length - 1) false = r)) :
    Calls Try.prog 40 #[.pointer (some ⟨P, 0, none⟩)] w fun e w' => e = .returned (.int .i64 (codeOf (!r) (!l))) ∧ Asked base g n cap A B w w' := by
  obtain ⟨a1, b1, rfl⟩ : ∃ ao c, va = .slice ao A.length c := by obtain ⟨ao, c, e, _⟩ := h.na; rw [List.length_map] at e; exact ⟨ao, c, e⟩
  obtain ⟨a2, b2, rfl⟩ : ∃ ao c, vb = .slice ao B.length c := by obtain ⟨ao, c, e, _⟩ := h.nb; rw [List.length_map] at e; exact ⟨ao, c, e⟩
  have k0 := h.c0
  have k1 := h.c1
  have hd : Below w.heap.size w w.drew := below_drewN (Below.refl w.heap.size w) 1
  have C := Lib.hid <| (outcomeAt_calls base P g n cap A B _ _ hA hB hAl hBl (A.length - 1) (B.length - 1) (by omega) (by omega) w.drew (h.below hd) cs hw (hr.below hd) r l hl hres).mono fun e w' hp => (⟨hp.1, Asked.trans ⟨cs, hw, hr.below hd, Only.of_below hd⟩ hp.2⟩ : e = .returned (.int .i64 (codeOf (!r) (!l))) ∧ Asked base g n cap A B w w')
  have e1 : (A.length : Int) - 1 = ((A.length - 1 : Nat) : Int) := by omega
  have e2 : (B.length : Int) - 1 = ((B.length - 1 : Nat) : Int) := by omega
  have q1 : (A.length : Int) ≤ 1000 := by omega
  have q2 : (B.length : Int) ≤ 1000 := by omega
  have w1 : IntKind.i64.wrap ((A.length : Int) - 1) = ((A.length - 1 : Nat) : Int) := by rw [IntWalk.i64_in _ (by omega), e1]
  have w2 : IntKind.i64.wrap ((B.length : Int) - 1) = ((B.length - 1 : Nat) : Int) := by rw [IntWalk.i64_in _ (by omega), e2]
  clear h hw hr hres hl hA hB hd e1 e2
  go_enter Try.func40, Try.ntmps40
  go_wp2_with fail
  go_region_with (go_at_call 70; (with_reducible refine C.out.mono ?_); rintro e w4 ⟨rfl, ha⟩; have HA := Lib.hid ha; clear ha)
  all_goals
    go_wp2_with fail
    go_ret
    exact ⟨rfl, HA.out⟩
end

section
open Go.RowKit Go.Lib
set_option linter.unusedVariables false
set_option linter.unusedSimpArgs false

/-- what a contest's calls write: its own cells, and a row of answers -/
def FarC (w : World) (base P b : Nat) : Prop := b = P ∨ (base ≤ b ∧ ∃ cur, w.heap[b]? = some (.cells cur 107 (0, 0)))

theorem FarC.trans {a b c : World} {base P : Nat} (h : Only a b (FarC a base P)) (k : Only b c (FarC b base P)) : Only a c (FarC a base P) :=
  h.trans k (fun i hi hf => by
    rcases hf with hf | ⟨h1, cur, h2⟩
    · exact Or.inl hf
    · by_cases hn : FarC a base P i
      · exact hn
      · rw [h.block i hi hn] at h2
        exact Or.inr ⟨h1, cur, h2⟩)

/-- a contest between two of its games -/
structure Co (w : World) (base P : Nat) : Prop where
  le : base ≤ P
  lt : base ≤ w.heap.size
  f : ∀ o, w.frozen? ⟨P, o, none⟩ = false
  c : ∃ o0 o1 ka l cap, w.cell? ⟨P, 0, none⟩ = some o0 ∧ w.cell? ⟨P, 1, none⟩ = some o1 ∧ w.cell? ⟨P, 2, none⟩ = some (.slice ka l cap) ∧
    ((ka = none ∧ l = 0 ∧ cap = 0) ∨ ∃ g cur, ka = some ⟨g, 0, none⟩ ∧ w.heap[g]? = some (.cells cur 107 (0, 0)) ∧ cur.size = cap ∧ cap ≤ maxLen ∧ g ≠ P ∧ base ≤ g)

theorem Co.below {w w' : World} {base P : Nat} (h : Co w base P) (hb : Below w.heap.size w w') : Co w' base P := by
  obtain ⟨o0, o1, ka, l, cap, h0, h1, h2, h3⟩ := h.c
  have hP := block_of_cell h0
  refine ⟨h.le, Nat.le_trans h.lt hb.size, fun o => (hb.frozen (p := ⟨P, o, none⟩) hP).trans (h.f o), o0, o1, ka, l, cap, (bcell hb _ _ hP).trans h0, (bcell hb _ _ hP).trans h1, (bcell hb _ _ hP).trans h2, ?_⟩
  rcases h3 with h3 | ⟨g, cur, e, hg, r⟩
  · exact Or.inl h3
  · exact Or.inr ⟨g, cur, e, (hb.block g (Array.getElem?_eq_some_iff.1 hg).1).trans hg, r⟩

theorem startC_calls (P base : Nat) (A B : List Nd) (aa ab : Option Addr) (ca cb : Nat) (w : World) (h : Co w base P) (hA : NodesZ w 0 base (.slice aa A.length ca) (A.map upN)) (hB : NodesZ w 0 base (.slice ab B.length cb) (B.map upN)) (hla : 0 < A.length) (hlb : 0 < B.length) (hla2 : A.length ≤ 200) (hlb2 : B.length ≤ 200) :
    Calls Try.prog 46 #[.pointer (some ⟨P, 0, none⟩), .slice aa A.length ca, .slice ab B.length cb] w fun e w' => e = .returned (.tuple #[]) ∧ ∃ g n cap cs,
      Ct w' base P g n cap A B (.slice aa A.length ca) (.slice ab B.length cb) ∧ Wn A B cs ∧ RowV base g n cap cs w' ∧ (∀ o, w'.frozen? ⟨P, o, none⟩ = false) ∧ Only w w' (FarC w base P) := by
  obtain ⟨o0, o1, ka, l, cap, h0, h1, h2, h3⟩ := h.c
  have hPle := h.le
  have hbw := h.lt
  rcases h3 with ⟨rfl, rfl, rfl⟩ | ⟨g, cur, rfl, hg, hs, hcap, hgP, hbg⟩
  · refine (startN_calls P base o0 o1 aa ab A.length B.length ca cb w h0 h1 h2 (h.f 0) (h.f 1) (h.f 2) hbw hla hlb hla2 hlb2).mono ?_
    rintro e w' ⟨G, rfl, q0, q1, q2, hr, ho, hf⟩
    have hP := block_of_cell h0
    have hs0 : SameIn 0 base w w' := ho.sameIn hbw (fun b hb e => by omega)
    refine ⟨rfl, _, _, G, _, ⟨q0, q1, q2, hA.keep hs0, hB.keep hs0, hbw, (World.ownsRow.lt hr _ rfl).2, by omega⟩, Wn.zero A B, hr, fun o => (hf o).trans (h.f o), ho.mono (fun i _ e => Or.inl e)⟩
  · refine (again_calls P g l cap base cur o0 o1 aa ab A.length B.length ca cb w h0 h1 h2 (h.f 0) (h.f 1) (h.f 2) hg hs hcap hgP hbg hbw hla hlb hla2 hlb2).mono ?_
    rintro e w' ⟨g', G, rfl, q0, q1, q2, hne, hgg, hr, ho, hf⟩
    have hs0 : SameIn 0 base w w' := ho.sameIn hbw (fun b hb e => by omega)
    refine ⟨rfl, g', _, G, _, ⟨q0, q1, q2, hA.keep hs0, hB.keep hs0, by omega, (World.ownsRow.lt hr _ rfl).2, fun e => hne e.symm⟩, Wn.zero A B, hr, fun o => (hf o).trans (h.f o), ho.mono (fun i _ e => e.elim Or.inl (fun e => Or.inr ⟨e ▸ hbg, cur, e ▸ hg⟩))⟩

theorem outcomeC_calls (base P g n cap : Nat) (A B : List Nd) (va vb : Value) (hA : Under A) (hB : Under B) (hAl : A.length ≤ 1000) (hBl : B.length ≤ 1000) (w : World) (h0 : 0 < A.length) (h1 : 0 < B.length) (hP : base ≤ P)
    (h : Ct w base P g n cap A B va vb) (cs : List Int) (hw : Wn A B cs) (hr : RowV base g n cap cs w) (hf : ∀ o, w.frozen? ⟨P, o, none⟩ = false) (x y : Bool) (hx : Hid (winF A B (A.length - 1) (B.length - 1) false = !x)) (hy : Hid (winF A B (A.length - 1) (B.length - 1) true = !y)) :
    Calls Try.prog 40 #[.pointer (some ⟨P, 0, none⟩)] w fun e w' => e = .returned (.int .i64 (codeOf x y)) ∧ Co w' base P ∧ Only w w' (FarC w base P) := by
  refine (outcome_calls base P g n cap A B va vb hA hB hAl hBl w h0 h1 h cs hw hr (!x) (!y) hy hx).mono ?_
  rintro e w' ⟨rfl, ha⟩
  have hPl := block_of_cell h.c0
  have ho := ha.only
  have hc := h.only ho
  have hbg := h.hg
  have hgl := h.hgl
  obtain ⟨cs', hw', hr', _⟩ := ha
  rw [Bool.not_not, Bool.not_not]
  obtain ⟨_, hr2⟩ := id hr
  rcases hr2 with ⟨e, _⟩ | ⟨g0, c0, cur, e, _, hg0, _⟩
  · cases e
  obtain ⟨_, hr3⟩ := id hr'
  rcases hr3 with ⟨e3, _⟩ | ⟨g1, c1, cur1, e3, hb1, hg1, hn1, hm1, hz1, _⟩
  · cases e3
  injection e with e _ _
  injection e with e
  injection e with e _ _
  subst e
  injection e3 with e4 _ e5
  injection e4 with e4
  injection e4 with e4 _ _
  subst e4
  subst e5
  refine ⟨rfl, ⟨hP, Nat.le_trans (by omega) ho.size, fun o => (ho.frozen hPl h.hP).trans (hf o), _, _, _, _, _, hc.c0, hc.c1, hc.c2, Or.inr ⟨_, cur1, rfl, hg1, by rw [hz1]; omega, hm1, fun e => h.hP e.symm, hbg⟩⟩, ho.mono (fun i _ e => Or.inr ⟨e ▸ hbg, cur, e ▸ hg0⟩)⟩

theorem SetN.only {w w' : World} {b n : Nat} {S : Nat → Bool} {F : Nat → Prop} (h : SetN w b n S) (ho : Only w w' F) (hn : ¬ F b) : SetN w' b n S := by
  have hl := h.lt
  obtain ⟨D, ⟨es, clock, hb, Ft, hs, hD⟩, h2⟩ := h
  exact ⟨D, ⟨es, clock, (ho.block b hl hn).trans hb, Ft, hs, hD⟩, h2⟩

/-- a set is no row of answers -/
theorem SetN.far {w : World} {b n base P : Nat} {S : Nat → Bool} (h : SetN w b n S) (hne : b ≠ P) : ¬ FarC w base P b := by
  rintro (e | ⟨_, cur, hc⟩)
  · exact hne e
  · obtain ⟨D, ⟨es, clock, hb, _⟩, _⟩ := h
    rw [hb] at hc
    cases hc

/-- a set is written: the contest is where it was -/
theorem Co.grown {w w' : World} {base P b : Nat} (h : Co w base P) (hg : w.grownBy w' (some b)) (hb : ∃ n S, SetN w b n S) : Co w' base P := by
  obtain ⟨n, S, hs⟩ := hb
  obtain ⟨o0, o1, ka, l, cap, h0, h1, h2, h3⟩ := h.c
  have hP := block_of_cell h0
  have hne : P ≠ b := hs.other h0
  have ho : Only w w' (fun i => i = b) := Only.of_grown hg (fun g e => by injection e with e; exact e.symm)
  refine ⟨h.le, Nat.le_trans h.lt ho.size, fun o => (ho.frozen hP hne).trans (h.f o), o0, o1, ka, l, cap, (ho.cell hP hne).trans h0, (ho.cell hP hne).trans h1, (ho.cell hP hne).trans h2, ?_⟩
  rcases h3 with h3 | ⟨g, cur, e, hgc, r⟩
  · exact Or.inl h3
  · refine Or.inr ⟨g, cur, e, (ho.block g (Array.getElem?_eq_some_iff.1 hgc).1 (fun e => ?_)).trans hgc, r⟩
    subst e
    obtain ⟨D, ⟨es, clock, hb2, _⟩, _⟩ := hs
    rw [hb2] at hgc
    cases hgc
end

section
open Go.RowKit Go.Maps Go.Sort Go.Shelf
set_option linter.unusedVariables false
set_option linter.unusedSimpArgs false


theorem sortsA (m : Nat) : AnyZI.SortsIn Try.prog Try.sortedA_ren Fence.wide m :=
  ⟨fun blk off cap ss W hH hblk hsz => callsIn_wide.2 (AnyM.slices_Sort_int Try.sortA blk off cap ss W hH hblk hsz),
   fun p cap W => callsIn_wide.2 (AnyM.slices_Sort_int_none Try.sortA p cap W)⟩

theorem keysK_calls (mb : Option Nat) (W : World) : CallsIn Fence.wide 5 Try.prog 50 #[.map mb] W fun e w' => e = .returned (.func (.func 77) #[] #[.pointer (some ⟨W.heap.size, 0, none⟩)]) ∧ w' = W.alloc (.cells #[.map mb] 70) :=
  AnyZI.keys_in Try.keysA Fence.wide 5 trivial rfl mb W

set_option maxHeartbeats 1000000 in
theorem sortedK_calls {H : Type} (b nn : Nat) (D0 : DataW H) (R : Value → Option (DataW H × List MemPlace)) (w : World) (hown : w.ownsMap Try.prog 3 R b nn D0) (hmax : Maps.size D0 ≤ maxLen) (hbytes : Maps.size D0 * 8 ≤ 140737488355328) :
    CallsIn Fence.wide 5 Try.prog 49 #[.func (.func 77) #[] #[.pointer (some ⟨w.heap.size, 0, none⟩)]] (w.alloc (.cells #[.map (some b)] 70)) fun e w' => ∃ (v : Value) (ss : List Int), e = .returned v ∧ ss.Perm (intKeys D0) ∧
      w'.ownsRow (w.alloc (.cells #[.map (some b)] 70)).heap.size 3 1 v ss.length ((ss.mergeSort (fun x y => decide (x ≤ y))).map encZ) ∧ (v = .slice none 0 0 ↔ ss = []) ∧ Below (w.alloc (.cells #[.map (some b)] 70)).heap.size (w.alloc (.cells #[.map (some b)] 70)) w' := by
  have hbl := hown.lt
  have hseq : SeqGives Fence.wide 2 Try.prog 77 #[.pointer (some ⟨w.heap.size, 0, none⟩)] encZ (fun ss => ss.Perm (intKeys D0)) (Maps.size D0) (w.alloc (.cells #[.map (some b)] 70)) :=
    AnyZI.keys_gives (ρ := Try.keysA_ren) { Try.keysA with } Fence.wide _ trivial rfl (by omega) w.heap.size b nn D0 _ (by simp) (by simp) (by
      obtain ⟨es, clock, hb, Ft, hs, hD⟩ := hown
      exact ⟨es, clock, (Below.heap_alloc _ _ b hbl).trans hb, Ft, hs, hD⟩)
  exact AnyZI.sorted_in Try.sortedA Fence.wide 5 trivial trivial trivial trivial rfl (by omega) (sortsA _) (enters_of Try.func76 (by kernel_rfl) rfl) 77 #[.pointer (some ⟨w.heap.size, 0, none⟩)] trivial (enters_of Try.func77 (by kernel_rfl) rfl) _ _ hmax hbytes _ hseq
end

section
open Go.RowKit Go.Maps Go.Sort Go.Shelf
set_option linter.unusedVariables false
set_option linter.unusedSimpArgs false

theorem setN_keys {w : World} {b n : Nat} {D : DataW Unit} {S : Nat → Bool} {L : List Nat} (hown : w.ownsMap Try.prog 3 unitElem b n D) (h2 : ∀ x : Nat, Maps.has D (.int .i64 (x : Int)) = S x) (h3 : ∀ kl, Maps.has D kl = true → ∃ x : Nat, kl = .int .i64 (x : Int))
    (hL : L.Pairwise (· < ·)) (hm : ∀ x : Nat, x ∈ L ↔ S x = true) : (upL L).Perm (intKeys D) := by
  obtain ⟨es, hD, hpw, _⟩ := hown.entries lawI
  obtain ⟨es', hD', hko⟩ := hown.keysOf
  obtain rfl : es = es' := by rw [hD] at hD'; simpa using hD'
  subst hD
  refine perm_intKeys hpw (fun p hp => by obtain ⟨v, hv⟩ := hko p hp; obtain ⟨x, _, hx, _⟩ := Maps.keyOf_i64 Try.underlying3 hv; exact ⟨x, hx⟩) ?_ ?_
  · refine List.pairwise_map.2 (hL.imp fun {a b} h e => ?_)
    omega
  · intro x
    constructor
    · intro hx
      obtain ⟨y, hy, rfl⟩ := List.mem_map.1 hx
      rw [h2 y]
      exact (hm y).1 hy
    · intro hx
      obtain ⟨y, hy⟩ := h3 _ hx
      injection hy with _ hy
      subst hy
      rw [h2 y] at hx
      exact List.mem_map.2 ⟨y, (hm y).2 hx, rfl⟩

theorem upL_sorted {L : List Nat} (hL : L.Pairwise (· < ·)) : (upL L).mergeSort (fun x y => decide (x ≤ y)) = upL L := by
  refine List.mergeSort_of_pairwise ?_
  refine List.pairwise_map.2 (hL.imp fun {a b} h => ?_)
  simp
  omega

set_option maxHeartbeats 1000000 in
theorem sortedN_calls (b n : Nat) (S : Nat → Bool) (L : List Nat) (w : World) (hs : SetN w b n S) (hL : L.Pairwise (· < ·)) (hm : ∀ x : Nat, x ∈ L ↔ S x = true) (hn : L.length ≤ 1000000) :
    CallsIn Fence.wide 5 Try.prog 49 #[.func (.func 77) #[] #[.pointer (some ⟨w.heap.size, 0, none⟩)]] (w.alloc (.cells #[.map (some b)] 70)) fun e w' => ∃ (v : Value), e = .returned v ∧
      w'.ownsRow (w.alloc (.cells #[.map (some b)] 70)).heap.size 3 1 v L.length ((upL L).map encZ) ∧ (v = .slice none 0 0 ↔ L = []) ∧ Below (w.alloc (.cells #[.map (some b)] 70)).heap.size (w.alloc (.cells #[.map (some b)] 70)) w' := by
  obtain ⟨D, hown, h2, h3⟩ := hs
  have hp := setN_keys hown h2 h3 hL hm
  have hlen : Maps.size D = L.length := by
    obtain ⟨es, rfl⟩ := hown.isMap
    have h := hp.length_eq
    simp [intKeys, upL] at h
    simp [Maps.size, h]
  refine (sortedK_calls b n D unitElem w hown (by unfold maxLen; omega) (by omega)).mono ?_
  rintro e w' ⟨v, ss, rfl, h4, h5, h6, h7⟩
  have e1 : ss.mergeSort (fun x y => decide (x ≤ y)) = upL L := (mergeSort_of_perm_i (h4.trans hp.symm)).trans (upL_sorted hL)
  have e2 : ss.length = L.length := by have h := (h4.trans hp.symm).length_eq; simpa [upL] using h
  rw [e1, e2] at h5
  refine ⟨v, rfl, h5, h6.trans ?_, h7⟩
  rw [← List.length_eq_zero_iff, e2, List.length_eq_zero_iff]
end

section
open Go.RowKit
open Go.Maps (Keyed)
set_option linter.unusedVariables false
set_option linter.unusedSimpArgs false

theorem zeroU (w : World) : (zeroValue 80).run Try.prog w = .ok (.agg #[]) w := by
  kernel_rfl

theorem setHas_calls (b n x : Nat) (S : Nat → Bool) (w : World) (hs : SetN w b n S) (hx : x ≤ 1000000000) :
    Calls Try.prog 45 #[.map (some b), .int .i64 x] w fun e w' => e = .returned (.bool (S x)) ∧ Below w.heap.size w w' := by
  obtain ⟨D, hown, hD1, hD2⟩ := hs
  have hkey := keyN x hx
  have hd := hD1 x
  clear hD1 hD2
  go_enter Try.func45, Try.ntmps45
  go_wp2_with (at_lookup; refine wpList_lookup_own_unit _ rfl _ _ 70 rfl 3 80 lawI Try.underlying70 (zeroU _) b n D rfl hown _ _ rfl hkey ?_)
  go_ret
  exact ⟨rfl, (Below.refl _ _).alloc (Nat.le_refl _) _⟩
end

section
open Go.RowKit Go.Lib Go.Shelf
set_option linter.unusedVariables false
set_option linter.unusedSimpArgs false

/-- the box of the form that is placed -/
def BxF (W : World) (b : Nat) (v : Value) : Prop := W.heap[b]? = some (.cells #[v] 26 (0, 0))

theorem BxF.cell {W : World} {b : Nat} {v : Value} (h : BxF W b v) : W.cell? ⟨b, 0, none⟩ = some v := cell_of_row W b 0 #[v] _ (0, 0) h
theorem BxF.lt {W : World} {b : Nat} {v : Value} (h : BxF W b v) : b < W.heap.size := (Array.getElem?_eq_some_iff.1 h).1
theorem BxF.only {W W' : World} {b : Nat} {v : Value} {F : Nat → Prop} (h : BxF W b v) (ho : Only W W' F) (hn : ¬ F b) : BxF W' b v := (ho.block b h.lt hn).trans h
theorem BxF.far {W : World} {b base P : Nat} {v : Value} (h : BxF W b v) (hne : b ≠ P) : ¬ FarC W base P b := by
  rintro (e | ⟨_, cur, hc⟩)
  · exact hne e
  · unfold BxF at h
    rw [h] at hc
    cases hc

theorem one_add (m cnt i : Nat) (S : Nat → Bool) (W : World) (hs : SetN W m cnt S) (hi : i ≤ 1000) (hc : cnt ≤ 1000) :
    Calls Try.prog 48 #[.map (some m), .slice (some ⟨W.heap.size, 0, none⟩) 1 1] (W.alloc (.cells #[.int .i64 (i : Int)] 3)) fun e w' => e = .returned (.tuple #[]) ∧ SetN w' m (cnt + 1) (fun y => decide (y ∈ [i]) || S y) ∧ (W.alloc (.cells #[.int .i64 (i : Int)] 3)).grownBy w' (some m) :=
  setAdd_calls m cnt S _ [i] _ _ _ (hs.kept (World.grownBy_alloc _ _ none) (by simp)) (ints_one W i 3) (fun x hx => by simp at hx; omega) (by simp; omega)

theorem one_drop (m cnt i : Nat) (S : Nat → Bool) (W : World) (hs : SetN W m cnt S) (hi : i ≤ 1000) :
    Calls Try.prog 47 #[.map (some m), .slice (some ⟨W.heap.size, 0, none⟩) 1 1] (W.alloc (.cells #[.int .i64 (i : Int)] 3)) fun e w' => e = .returned (.tuple #[]) ∧ SetN w' m cnt (fun y => S y && decide (y ∉ [i])) ∧ (W.alloc (.cells #[.int .i64 (i : Int)] 3)).grownBy w' (some m) :=
  setDrop_calls m cnt S _ [i] _ _ _ (hs.kept (World.grownBy_alloc _ _ none) (by simp)) (ints_one W i 3) (fun x hx => by simp at hx; omega)

/-- what lies about between two of the contest's games -/
structure GrA (w W : World) (m P cnt : Nat) (S : Nat → Bool) : Prop where
  set : SetN W m cnt S
  co : Co W w.heap.size P
  below : Below w.heap.size w W
  le : w.heap.size ≤ m

theorem GrA.ne {w W : World} {m P cnt : Nat} {S : Nat → Bool} (h : GrA w W m P cnt S) : P ≠ m := by
  obtain ⟨_, _, _, _, _, h0, _⟩ := h.co.c
  exact h.set.other h0
theorem GrA.P_lt {w W : World} {m P cnt : Nat} {S : Nat → Bool} (h : GrA w W m P cnt S) : P < W.heap.size := by
  obtain ⟨_, _, _, _, _, h0, _⟩ := h.co.c
  exact block_of_cell h0
theorem GrA.congr {w W : World} {m P cnt : Nat} {S T : Nat → Bool} (h : GrA w W m P cnt S) (e : ∀ x, S x = T x) : GrA w W m P cnt T := ⟨setN_congr h.set e, h.co, h.below, h.le⟩
theorem GrA.light {w W W' : World} {m P cnt : Nat} {S : Nat → Bool} (h : GrA w W m P cnt S) (hb : Below W.heap.size W W') : GrA w W' m P cnt S :=
  ⟨h.set.only (Only.of_below (F := fun _ => False) hb) id, h.co.below hb, h.below.trans (hb.mono h.below.size), h.le⟩
theorem GrA.far {w W W' : World} {m P cnt : Nat} {S : Nat → Bool} (h : GrA w W m P cnt S) (ho : Only W W' (FarC W w.heap.size P)) (hc : Co W' w.heap.size P) : GrA w W' m P cnt S :=
  ⟨h.set.only ho (h.set.far (fun e => h.ne e.symm)), hc, h.below.trans (ho.below h.below.size (fun g e => by have := h.co.le; rcases e with e | ⟨e, _⟩ <;> omega)), h.le⟩
theorem GrA.put {w W W' : World} {m P cnt cnt' : Nat} {S T : Nat → Bool} (h : GrA w W m P cnt S) (hs : SetN W' m cnt' T) (hg : W.grownBy W' (some m)) : GrA w W' m P cnt' T :=
  ⟨hs, h.co.grown hg ⟨cnt, S, h.set⟩, h.below.trans ((Only.of_grown (F := fun i => i = m) hg (fun g e => by injection e with e; exact e.symm)).below h.below.size (fun g e => by have := h.le; omega)), h.le⟩

/-- a new contest and an empty set -/
theorem grA_new (w w1 : World) (hb : Below w.heap.size w w1) : GrA w ((w1.alloc (.map #[] 0)).alloc (.cells #[.slice none 0 0, .slice none 0 0, .slice none 0 0] 73)) w1.heap.size (w1.heap.size + 1) 0 (fun _ => false) := by
  have hs := hb.size
  have hb1 : Below w.heap.size w (w1.alloc (.map #[] 0)) := hb.alloc hs _
  have hz : (w1.alloc (.map #[] 0)).heap.size = w1.heap.size + 1 := by simp
  refine ⟨SetN.kept ⟨.map [], World.ownsMap_made _ _ _ _, fun x => by simp [Maps.has], fun kl hk => by simp [Maps.has] at hk⟩ (World.grownBy_alloc _ _ none) (by simp), ⟨by omega, by simp; omega, fun o => ?_, .slice none 0 0, .slice none 0 0, none, 0, 0, ?_, ?_, ?_, Or.inl ⟨rfl, rfl, rfl⟩⟩, hb1.alloc (by omega) _, hs⟩
  · have e : ((w1.alloc (.map #[] 0)).alloc (.cells #[.slice none 0 0, .slice none 0 0, .slice none 0 0] 73)).heap[w1.heap.size + 1]? = some (.cells #[.slice none 0 0, .slice none 0 0, .slice none 0 0] 73 (0, 0)) := by
      rw [← hz]
      exact heap_alloc_last _ _
    unfold World.frozen?
    simp only [e]
    simp
  all_goals
    rw [← hz]
    go_simp

theorem forms_vals2 {w : World} {lo hi : Nat} {v : Value} {Fs : List (List Nz)} (h : FormsZ w lo hi v Fs) {i : Nat} {f : List Nz} (hf : Fs[i]? = some f) :
    ∃ b off c a d, v = .slice (some ⟨b, off, none⟩) Fs.length c ∧ b < hi ∧ w.cell? ⟨b, off + i, none⟩ = some (.slice a f.length d) ∧ NodesZ w lo hi (.slice a f.length d) f := by
  obtain ⟨b, off, c, a, n, d, e, hb, hc, hn⟩ := forms_vals h hf
  obtain ⟨a', d', e', _⟩ := id hn
  obtain ⟨q1, q2, q3⟩ := slice_inj e'
  subst q1 q2 q3
  exact ⟨b, off, c, _, _, e, hb, hc, hn⟩

/-- a contest of two of the games -/
theorem startF_calls (P B : Nat) (fk fi : List Nz) (gk : goodB fk = true) (gi : goodB fi = true) (ak ai : Option Addr) (dk di : Nat) (W : World) (lo hi : Nat) (hh : hi ≤ B) (co : Co W B P) (nk : NodesZ W lo hi (.slice ak fk.length dk) fk) (ni : NodesZ W lo hi (.slice ai fi.length di) fi) (x y : Bool)
    (hx : winF (fk.map downN) (fi.map downN) ((fk.map downN).length - 1) ((fi.map downN).length - 1) false = !x) (hy : winF (fk.map downN) (fi.map downN) ((fk.map downN).length - 1) ((fi.map downN).length - 1) true = !y) :
    Calls Try.prog 46 #[.pointer (some ⟨P, 0, none⟩), .slice ak fk.length dk, .slice ai fi.length di] W fun e w' => e = .returned (.tuple #[]) ∧ Only W w' (FarC W B P) ∧
      Calls Try.prog 40 #[.pointer (some ⟨P, 0, none⟩)] w' fun e w2 => e = .returned (.int .i64 (codeOf x y)) ∧ Co w2 B P ∧ Only w' w2 (FarC w' B P) := by
  obtain ⟨k1, k2, _⟩ := (goodB_iff fk).1 gk
  obtain ⟨i1, i2, _⟩ := (goodB_iff fi).1 gi
  have ek : (fk.map downN).length = fk.length := by simp
  have ei : (fi.map downN).length = fi.length := by simp
  have nk' : NodesZ W 0 B (.slice ak (fk.map downN).length dk) ((fk.map downN).map upN) := by rw [ek, k2.up.1]; exact nk.wide (Nat.zero_le _) hh
  have ni' : NodesZ W 0 B (.slice ai (fi.map downN).length di) ((fi.map downN).map upN) := by rw [ei, i2.up.1]; exact ni.wide (Nat.zero_le _) hh
  have C := startC_calls P B (fk.map downN) (fi.map downN) ak ai dk di W co nk' ni' (by rw [ek]; exact k1.1) (by rw [ei]; exact i1.1) (by rw [ek]; have := k1.2.1; omega) (by rw [ei]; have := i1.2.1; omega)
  rw [ek, ei] at C
  refine C.mono ?_
  rintro e w' ⟨rfl, g, n, cap, cs, hct, hwn, hrow, hf, ho⟩
  refine ⟨rfl, ho, ?_⟩
  exact outcomeC_calls B P g n cap (fk.map downN) (fi.map downN) _ _ k2.up.2.under i2.up.2.under (by rw [ek]; have := k1.2.1; omega) (by rw [ei]; have := i1.2.1; omega) w' (by rw [ek]; exact k1.1) (by rw [ei]; exact i1.1) co.le hct cs hwn hrow hf x y (Lib.hid hx) (Lib.hid hy)
end

section
open Go.RowKit Go.Lib Go.Shelf
set_option linter.unusedVariables false
set_option linter.unusedSimpArgs false

set_option maxRecDepth 100000 in
set_option maxHeartbeats 20000000 in
theorem greatI_calls (v : Value) (Fs : List (List Nz)) (ok : Bool) (L : List Nat) (hok : Hid (alB 24 Fs = ok)) (hL : Hid (grtV Fs = L)) (w : World) (lo hi : Nat) (hh : hi ≤ w.heap.size) (hv : FormsZ w lo hi v Fs) :
    Calls Try.prog 21 #[v] w fun e w' => ∃ a c, e = .returned (.tuple #[.slice a L.length c, .bool ok]) ∧ OwnI w' w.heap.size (.slice a L.length c) (upL L) ∧ Below w.heap.size w w' := by
  have HV := Lib.hid fun (W : World) (hW : Below w.heap.size w W) => hv.below hW hh
  have hmm := @run_makeMap Try.prog
  obtain ⟨q, hq⟩ : ∃ q, Fs.all goodB = q := ⟨_, rfl⟩
  have CG := Lib.hid (allGood_calls v Fs q (Lib.hid hq) w lo hi hh hv)
  obtain ⟨ao, co, rfl⟩ : ∃ a c, v = .slice a Fs.length c := by obtain ⟨a, c, e, _⟩ := hv; exact ⟨a, c, e⟩
  clear hv
  cases ok with
  | false =>
    obtain rfl : L = [] := by rw [← hL.out]; unfold grtV; rw [hok.out]; rfl
    have HE := Lib.hid fun (W : World) (hW : Below w.heap.size w W) => And.intro (show OwnI (W.alloc (.cells #[] 3)) w.heap.size (.slice (some ⟨W.heap.size, 0, none⟩) 0 0) [] from World.ownsRow_lit (base := w.heap.size) (e := 3) (size := 1) W #[] 0 hW.size (by unfold maxLen; omega) rfl) (show Below w.heap.size w (W.alloc (.cells #[] 3)) from hW.alloc hW.size _)
    by_cases hn : Fs.length ≤ 24
    · have q1 : ¬ (24 : Int) < Fs.length := by omega
      obtain rfl : q = false := by
        have h := hok.out
        unfold alB at h
        rw [hq] at h
        simpa [hn] using h
      clear hok hL hq HV
      go_enter Try.func21, Try.ntmps21
      go_wp2
      go_step3
      have q2 : decide ((24 : Int) < Fs.length) = false := by rw [decide_eq_false_iff_not]; omega
      go_wp2_with (go_at_call 44; refine CG.out.mono ?_; rintro e w1 ⟨rfl, hb⟩; have HB := Lib.hid hb; clear hb CG)
      try rw [Exit.noGoto_ret]
      exact bodyPost_ret (v := .tuple #[.slice (some ⟨w1.heap.size, 0, none⟩) 0 0, .bool false]) (by simp [results, Try.results21, go_sem]) rfl ⟨_, _, rfl, (HE.out w1 HB.out).1, (HE.out w1 HB.out).2⟩
    · have q1 : (24 : Int) < Fs.length := by omega
      clear hok hL hq HV CG
      go_enter Try.func21, Try.ntmps21
      go_wp2
      go_step3
      have q2 : decide ((24 : Int) < Fs.length) = true := by rw [decide_eq_true_iff]; omega
      go_wp2_with fail
      try rw [Exit.noGoto_ret]
      exact bodyPost_ret (v := .tuple #[.slice (some ⟨w.heap.size, 0, none⟩) 0 0, .bool false]) (by simp [results, Try.results21, go_sem]) rfl ⟨_, _, rfl, (HE.out w (Below.refl _ _)).1, (HE.out w (Below.refl _ _)).2⟩
  | true =>
    obtain ⟨hn24, hgood⟩ := alB_parts hok.out
    have hLv : bestL (geI Fs) Fs.length = L := by rw [← hL.out]; unfold grtV; rw [hok.out]; rfl
    obtain rfl : q = true := by rw [← hq, List.all_eq_true]; exact hgood
    have q1 : ¬ (24 : Int) < Fs.length := by omega
    have HG := Lib.hid hgood
    have HR := Lib.hid (geI_refl hgood)
    have HT := Lib.hid (geI_trans hgood)
    have HC := Lib.hid fun (i k : Nat) (f fk : List Nz) (hf : Fs[i]? = some f) (hk : Fs[k]? = some fk) (r l : Bool) => geI_code hgood hf hk r l
    obtain ⟨n, hn⟩ : ∃ n, Fs.length = n := ⟨_, rfl⟩
    have HN := Lib.hid hn
    rw [hn] at hn24 hLv HV CG q1
    rw [hn]
    clear hn
    obtain ⟨g, hg⟩ : ∃ g, geI Fs = g := ⟨_, rfl⟩
    rw [hg] at HR HT HC hLv
    have HLV := Lib.hid hLv
    clear hg hok hL hq hgood hLv
    go_enter Try.func21, Try.ntmps21
    go_wp2
    go_step3
    have q2 : decide ((24 : Int) < n) = false := by rw [decide_eq_false_iff_not]; omega
    go_wp2_with (go_at_call 44; refine CG.out.mono ?_; rintro e w1 ⟨rfl, hb⟩; have HA0 := Lib.hid ((grA_new w w1 hb).congr (fun x => (best_zero g x).symm)); clear hb CG)
    go_step3
    go_wp2
    generalize hW2 : ((w1.alloc (.map #[] 0)).alloc (.cells #[.slice none 0 0, .slice none 0 0, .slice none 0 0] 73)) = W2 at HA0 ⊢
    clear hW2
    generalize w1.heap.size = m at HA0 ⊢
    generalize m + 1 = P at HA0 ⊢
    go_loopg [21] n (fun nn t wr => ∃ (i cnt : Nat), nn + i = n ∧ t = .int .i64 i ∧ cnt ≤ i ∧ Hid (GrA w wr m P cnt (fun x => decide (x ∈ bestL g i))))
    case atStart => exact ⟨0, 0, by omega, rfl, Nat.le_refl _, HA0⟩
    case round =>
      obtain ⟨i, cnt, hgi, rfl, hcnt, ha⟩ := hrel
      clear HA0
      by_cases hlt : i < n
      · obtain ⟨n0, rfl⟩ : ∃ n0, gk = n0 + 1 := ⟨gk - 1, by omega⟩
        have t0 : (0 : Int) ≤ i := by omega
        have t1 : (i : Int) < n := by omega
        obtain ⟨fi, hfi⟩ := lt_get (l := Fs) (i := i) (by rw [HN.out]; exact hlt)
        obtain ⟨b, off, cc, ai, di, e1, hbh, ci, ni1⟩ := forms_vals2 (HV.out w (Below.refl _ _)) hfi
        obtain ⟨q3, q4, q5⟩ := slice_inj e1
        subst q3
        clear q4 q5 e1
        have hws := ha.out.below.size
        have hbw : b < w.heap.size := by omega
        have hPl := ha.out.P_lt
        have ci' : wr.cell? ⟨b, off + i, none⟩ = some (.slice ai fi.length di) := (bcell ha.out.below b _ hbw).trans ci
        have hal : Below wr.heap.size wr (wr.alloc (.cells #[.slice ai fi.length di] 26)) := (Below.refl _ _).alloc (Nat.le_refl _) _
        have HBX : Hid (BxF (wr.alloc (.cells #[.slice ai fi.length di] 26)) wr.heap.size (.slice ai fi.length di)) := Lib.hid (heap_alloc_last _ _)
        have HAB := Lib.hid ((ha.out.light hal).congr (fun x => (setB_zero g i x).symm))
        have HNI := Lib.hid fun (W : World) (hW : Below w.heap.size w W) => ni1.below hW hh
        have HFI := Lib.hid hfi
        clear ci ni1 hal ha hfi
        go_wp2
        generalize wr.heap.size = B at HBX hPl hws ⊢
        go_loopg [27] i (fun n2 t wy => ∃ k : Nat, n2 + k = i ∧ t = .int .i64 k ∧ Hid (∀ x, x ∈ bestL g i → x < k → g x i = false) ∧ Hid (GrA w wy m P cnt (setB g i k)) ∧ Hid (BxF wy B (.slice ai fi.length di)))
        case atStart => exact ⟨0, by omega, rfl, Lib.hid (fun x _ h => by omega), HAB, HBX⟩
        case round =>
          obtain ⟨k, hgk, rfl, hno, ha, hbx⟩ := hrel
          clear HAB HBX ci'
          by_cases hltk : k < i
          · obtain ⟨n1, rfl⟩ : ∃ n1, gk = n1 + 1 := ⟨gk - 1, by omega⟩
            have s0 : (0 : Int) ≤ k := by omega
            have s1 : (k : Int) < i := by omega
            obtain ⟨hs, hhs⟩ : ∃ x, decide (k ∈ bestL g i) = x := ⟨_, rfl⟩
            have CH := Lib.hid (show Calls Try.prog 45 #[.map (some m), .int .i64 k] wr fun e w' => e = .returned (.bool hs) ∧ Below wr.heap.size wr w' from by
              have h := setHas_calls m cnt k (setB g i k) wr ha.out.set (by omega)
              rw [setB_has, hhs] at h
              exact h)
            have HHS := Lib.hid hhs
            clear hhs
            cases hs with
            | false =>
              have HN1 : Hid (∀ x, x ∈ bestL g i → x < k + 1 → g x i = false) := Lib.hid fun x hx hl => by
                have h := HHS.out
                simp at h
                exact hno.out x hx (by have : x ≠ k := fun e => h (e ▸ hx); omega)
              have HQ := Lib.hid (setB_skip g i k HHS.out)
              clear hno HHS
              go_wp2_with fail
              refine CH.out.mono ?_
              rintro e w2 ⟨rfl, hb2⟩
              have A2 := Lib.hid ((ha.out.light hb2).congr HQ.out)
              have B2 : Hid (BxF w2 B (.slice ai fi.length di)) := Lib.hid (hbx.out.only (Only.of_below (F := fun _ => False) hb2) id)
              clear hb2 ha hbx CH HQ
              go_wp2_with fail
              go_roundg n1
              case measure => omega
              case rel => exact ⟨k + 1, by omega, by go_num, HN1, A2, B2⟩
            | true =>
              obtain ⟨fk, hfk⟩ := lt_get (l := Fs) (i := k) (by rw [HN.out]; omega)
              obtain ⟨b', off', cc', ak, dk, e1, hbh', ck, nk1⟩ := forms_vals2 (HV.out w (Below.refl _ _)) hfk
              obtain ⟨q3, q4, q5⟩ := slice_inj e1
              injection q3 with q3
              injection q3 with r1 r2 _
              subst r1 r2
              clear q4 q5 e1
              obtain ⟨x, hx⟩ : ∃ x, g k i = x := ⟨_, rfl⟩
              obtain ⟨y, hy⟩ : ∃ y, g i k = y := ⟨_, rfl⟩
              have hcode := HC.out i k fi fk HFI.out hfk _ _ rfl rfl
              rw [hx, hy] at hcode
              have c1 : winF (fk.map downN) (fi.map downN) ((fk.map downN).length - 1) ((fi.map downN).length - 1) false = !x := by rw [hcode.1, Bool.not_not]
              have c2 : winF (fk.map downN) (fi.map downN) ((fk.map downN).length - 1) ((fi.map downN).length - 1) true = !y := by rw [hcode.2, Bool.not_not]
              have CS := Lib.hid fun (W : World) (hA : GrA w W m P cnt (setB g i k)) => startF_calls P w.heap.size fk fi (HG.out fk (List.mem_of_getElem? hfk)) (HG.out fi (List.mem_of_getElem? HFI.out)) ak ai dk di W lo hi hh hA.co (nk1.below hA.below hh) (HNI.out W hA.below) x y c1 c2
              have HX := Lib.hid hx
              have HY := Lib.hid hy
              clear hx hy hcode c1 c2 nk1
              have HCK := Lib.hid fun (W : World) (hW : Below w.heap.size w W) => (bcell hW b (off + k) hbw).trans ck
              have k0 : (k : Int) < n := by omega
              clear ck hfk
              go_wp2_with fail
              refine CH.out.mono ?_
              rintro e w2 ⟨rfl, hb2⟩
              have A2 := Lib.hid (ha.out.light hb2)
              have B2 : Hid (BxF w2 B (.slice ai fi.length di)) := Lib.hid (hbx.out.only (Only.of_below (F := fun _ => False) hb2) id)
              have z1 := HCK.out w2 A2.out.below
              have z2 := B2.out.cell
              have hbd : Below w2.heap.size w2 w2.drew := below_drewN (Below.refl _ _) 1
              have HBD := Lib.hid hbd
              have A2d : Hid (GrA w w2.drew m P cnt (setB g i k)) := Lib.hid (A2.out.light hbd)
              clear hb2 ha hbx CH hbd
              go_upto_region 12 with fail
              go_cut [27] from 27 to 52 (fun s27 wx => s27 = .int .i64 k ∧ Only w2 wx (FarC w2 w.heap.size P) ∧ Calls Try.prog 40 #[.pointer (some ⟨P, 0, none⟩)] wx fun e w3 => e = .returned (.int .i64 (codeOf x y)) ∧ Co w3 w.heap.size P ∧ Only wx w3 (FarC wx w.heap.size P))
              case first =>
                go_region_with (go_at_call 46; (with_reducible refine (CS.out _ A2d.out).mono ?_); rintro e wa ⟨rfl, ho, hco⟩)
                all_goals
                  have HO := Lib.hid ho
                  have HCO := Lib.hid hco
                  clear ho hco
                  go_wp2_with fail
                  go_meet
                  exact ⟨rfl, FarC.trans (Only.of_below HBD.out) HO.out, HCO.out⟩
              case rest =>
                obtain ⟨rfl, ho, hco⟩ := hcut
                have HO := Lib.hid ho
                have HCO := Lib.hid hco
                clear ho hco CS z1 z2 A2d HCK
                have HAX := Lib.hid fun (W : World) (hc : Co W w.heap.size P) (h : Only wc W (FarC wc w.heap.size P)) => And.intro (A2.out.far (FarC.trans HO.out h) hc) (B2.out.only (FarC.trans HO.out h) (B2.out.far (by omega)))
                cases x with
                | true =>
                  have HQ := Lib.hid (setB_next g HR.out HT.out i k HHS.out HX.out)
                  cases y with
                  | true =>
                    have hcd : codeOf true true = 4 := rfl
                    rw [hcd] at HCO
                    have hxx : True := trivial
                    go_wp2_with fail
                    refine HCO.out.mono ?_
                    rintro e w4 ⟨rfl, hc4, ho4⟩
                    obtain ⟨a4, b4⟩ := HAX.out w4 hc4 ho4
                    have A4 := Lib.hid (a4.congr HQ.out)
                    clear a4 b4 hc4 ho4 HAX HCO HO A2 B2 hno
                    go_wp2_with fail
                    go_roundg n0
                    case measure => omega
                    case rel => exact ⟨i + 1, cnt, by omega, by go_num, by omega, A4⟩
                  | false =>
                    have hcd : codeOf true false = 1 := rfl
                    rw [hcd] at HCO
                    have hxx : True := trivial
                    go_wp2_with fail
                    refine HCO.out.mono ?_
                    rintro e w4 ⟨rfl, hc4, ho4⟩
                    obtain ⟨a4, b4⟩ := HAX.out w4 hc4 ho4
                    have A4 := Lib.hid (a4.congr HQ.out)
                    clear a4 b4 hc4 ho4 HAX HCO HO A2 B2 hno
                    go_wp2_with fail
                    go_roundg n0
                    case measure => omega
                    case rel => exact ⟨i + 1, cnt, by omega, by go_num, by omega, A4⟩
                | false =>
                  have HN1 : Hid (∀ x, x ∈ bestL g i → x < k + 1 → g x i = false) := Lib.hid fun x hx hl => by
                    by_cases e : x = k
                    · rw [e]; exact HX.out
                    · exact hno.out x hx (by omega)
                  cases y with
                  | true =>
                    have hcd : codeOf false true = 2 := rfl
                    rw [hcd] at HCO
                    have HQ := Lib.hid (setB_drop g i k (by rw [HX.out, HY.out]; rfl))
                    go_wp2_with fail
                    refine HCO.out.mono ?_
                    rintro e w4 ⟨rfl, hc4, ho4⟩
                    obtain ⟨a4, b4⟩ := HAX.out w4 hc4 ho4
                    have A4 := Lib.hid a4
                    have B4 := Lib.hid b4
                    clear a4 b4 hc4 ho4 HAX HCO HO A2 B2 hno
                    have hal : Below w4.heap.size w4 (w4.alloc (.cells #[.int .i64 (k : Int)] 3)) := (Below.refl _ _).alloc (Nat.le_refl _) _
                    have HAL := Lib.hid hal
                    clear hal
                    go_wp2_with fail
                    refine (one_drop m cnt k _ w4 A4.out.set (by omega)).mono ?_
                    rintro e w5 ⟨rfl, hs5, hg5⟩
                    have A5 := Lib.hid (((A4.out.light HAL.out).put hs5 hg5).congr HQ.out)
                    have B5 : Hid (BxF w5 B (.slice ai fi.length di)) := Lib.hid ((B4.out.only (Only.of_below (F := fun _ => False) HAL.out) id).only (Only.of_grown (F := fun b => b = m) hg5 (fun q e => by injection e with e; exact e.symm)) (fun e => by have h := A4.out.set.other (b' := B) (o := 0) B4.out.cell; exact h e))
                    clear hs5 hg5 A4 B4 HAL HQ
                    go_wp2_with fail
                    go_roundg n1
                    case measure => omega
                    case rel => exact ⟨k + 1, by omega, by go_num, HN1, A5, B5⟩
                  | false =>
                    have hcd : codeOf false false = 3 := rfl
                    rw [hcd] at HCO
                    have HQ := Lib.hid (setB_keep g i k (by rw [HX.out, HY.out]; rfl))
                    go_wp2_with fail
                    refine HCO.out.mono ?_
                    rintro e w4 ⟨rfl, hc4, ho4⟩
                    obtain ⟨a4, b4⟩ := HAX.out w4 hc4 ho4
                    have A4 := Lib.hid (a4.congr HQ.out)
                    have B4 := Lib.hid b4
                    clear a4 b4 hc4 ho4 HAX HCO HO A2 B2 hno
                    go_wp2_with fail
                    go_roundg n1
                    case measure => omega
                    case rel => exact ⟨k + 1, by omega, by go_num, HN1, A4, B4⟩
          · obtain rfl : k = i := by omega
            have HQ := Lib.hid (setB_end g HR.out HT.out k hno.out)
            have HAL : Hid (Below wr.heap.size wr (wr.alloc (.cells #[.int .i64 (k : Int)] 3))) := Lib.hid ((Below.refl _ _).alloc (Nat.le_refl _) _)
            clear hno hbx
            go_wp2_with fail
            refine (one_add m cnt k _ wr ha.out.set (by omega) (by omega)).mono ?_
            rintro e w5 ⟨rfl, hs5, hg5⟩
            have A5 := Lib.hid (((ha.out.light HAL.out).put hs5 hg5).congr HQ.out)
            clear hs5 hg5 ha HAL HQ
            go_wp2_with fail
            go_roundg n0
            case measure => omega
            case rel => exact ⟨k + 1, cnt + 1, by omega, by go_num, by omega, A5⟩
      · obtain rfl : i = n := by omega
        have CK := Lib.hid fun (W : World) => callsIn_wide.1 (keysK_calls (some m) W)
        have CT := Lib.hid (callsIn_wide.1 (sortedN_calls m cnt _ (bestL g i) wr ha.out.set (best_asc g i) (fun x => by simp) (by have := best_len g i; omega)))
        rw [HLV.out] at CT
        have HB := Lib.hid ((ha.out.below).alloc ha.out.below.size (.cells #[.map (some m)] 70))
        clear ha HR HT HC HG HV HLV
        go_wp2_with fail
        refine (CK.out _).mono ?_
        rintro e w2 ⟨rfl, rfl⟩
        go_wp2_with fail
        refine CT.out.mono ?_
        rintro e w3 ⟨v, rfl, ho, _, hb3⟩
        have HO : Hid (OwnI w3 w.heap.size v (upL L)) := Lib.hid (OwnI.mono (show OwnI w3 _ v (upL L) from by unfold OwnI; rw [show (upL L).length = L.length from by unfold upL; simp]; exact ho) HB.out.size)
        have HB3 := Lib.hid (HB.out.trans (hb3.mono HB.out.size))
        obtain ⟨av, cv, hv⟩ := HO.out.form
        rw [show (upL L).length = L.length from by unfold upL; simp] at hv
        subst hv
        clear ho hb3 CK CT HB
        go_wp2_with fail
        try rw [Exit.noGoto_ret]
        exact bodyPost_ret (v := .tuple #[.slice av L.length cv, .bool true]) (by simp [results, Try.results21, go_sem]) rfl ⟨_, _, rfl, HO.out, HB3.out⟩
end

section
open Go.RowKit
set_option linter.unusedVariables false
set_option linter.unusedSimpArgs false

set_option maxRecDepth 100000 in
set_option maxHeartbeats 20000000 in
theorem greatS_calls (v : Value) (Fs : List (List Nz)) (ok : Bool) (L : List Nat) (hok : Hid (alB 24 Fs = ok)) (hL : Hid (grtV Fs = L)) (w : World) (lo hi : Nat) (hh : hi ≤ w.heap.size) (hv : FormsZ w lo hi v Fs) :
    Calls Try.prog 22 #[v] w fun e w' => ∃ a c, e = .returned (.tuple #[.slice a L.length c, .bool ok]) ∧ OwnI w' w.heap.size (.slice a L.length c) (upL L) ∧ Below w.heap.size w w' := by
  obtain ⟨i0, hi0, hz0, hz1, hz2⟩ := info_parts infoIntA
  have HV := Lib.hid fun (W : World) (hW : Below w.heap.size w W) => hv.below hW hh
  have HB0 : Below w.heap.size w (w.alloc (.cells #[] 3)) := (Below.refl _ _).alloc (Nat.le_refl _) _
  have HO0 : Hid (OwnI (w.alloc (.cells #[] 3)) w.heap.size (.slice (some ⟨w.heap.size, 0, none⟩) 0 0) (upL [])) := Lib.hid (World.ownsRow_lit (base := w.heap.size) (e := 3) (size := 1) w #[] 0 (Nat.le_refl _) (by unfold maxLen; omega) rfl)
  have CA := Lib.hid (l3All_calls v Fs 24 (by omega) ok hok _ lo hi (by have := HB0.size; omega) (hv.below HB0 hh))
  have HB0 := Lib.hid HB0
  obtain ⟨ao, co, rfl⟩ : ∃ a c, v = .slice a Fs.length c := by obtain ⟨a, c, e, _⟩ := hv; exact ⟨a, c, e⟩
  clear hv
  go_enter Try.func22, Try.ntmps22
  go_wp2_with fail
  refine CA.out.mono ?_
  rintro e w1 ⟨rfl, hb1⟩
  have HB1 := Lib.hid (HB0.out.trans (hb1.mono HB0.out.size))
  have HO1 : Hid (OwnI w1 w.heap.size (.slice (some ⟨w.heap.size, 0, none⟩) 0 0) (upL [])) := Lib.hid (own_only HO0.out (Only.of_below (F := fun _ => False) hb1) (fun _ _ => id))
  clear hb1 CA HO0
  cases ok with
  | false =>
    obtain rfl : L = [] := by rw [← hL.out]; unfold grtV; rw [hok.out]; rfl
    clear HB0 hok hL
    go_wp2_with fail
    exact bodyPost_ret (v := .tuple #[.slice (some ⟨w.heap.size, 0, none⟩) 0 0, .bool false]) (by simp [results, Try.results22, go_sem]) rfl ⟨_, _, rfl, HO1.out, HB1.out⟩
  | true =>
    obtain ⟨hn24, hgood⟩ := alB_parts hok.out
    have hLv : bestL (geI Fs) Fs.length = L := by rw [← hL.out]; unfold grtV; rw [hok.out]; rfl
    have HLV := Lib.hid hLv
    have HG := Lib.hid hgood
    have CQ := Lib.hid fun (va vb : Value) (f g : List Nz) (i k : Nat) (hf : Fs[i]? = some f) (hg : Fs[k]? = some g) (W : World) (hW : hi ≤ W.heap.size) (hva : NodesZ W lo hi va f) (hvb : NodesZ W lo hi vb g) => show Calls Try.prog 36 #[.agg #[va], .agg #[vb]] W fun e w' => e = .returned (.bool (geI Fs i k)) ∧ Below W.heap.size W w' from by
      have hgf := hgood f (List.mem_of_getElem? hf)
      have hgg := hgood g (List.mem_of_getElem? hg)
      obtain ⟨f1, f2, _⟩ := (goodB_iff f).1 hgf
      obtain ⟨g1, g2, _⟩ := (goodB_iff g).1 hgg
      refine l4Geq_calls va vb f g (geI Fs i k) (Lib.hid ?_) W lo hi lo hi hW hW hva hvb f1 f2 g1 g2
      rw [geTwo_left f g f2 g2 f1.1 g1.1 _ rfl]
      unfold geI geW
      have e1 : Fs.getD i [] = f := by rw [List.getD_eq_getElem?_getD, hf]; rfl
      have e2 : Fs.getD k [] = g := by rw [List.getD_eq_getElem?_getD, hg]; rfl
      rw [e1, e2]
    clear HB0 hok hL hgood hLv
    obtain ⟨n, hn⟩ : ∃ n, Fs.length = n := ⟨_, rfl⟩
    have HN := Lib.hid hn
    rw [hn] at hn24 HLV HV
    rw [hn]
    clear hn
    obtain ⟨g, hg⟩ : ∃ g, geI Fs = g := ⟨_, rfl⟩
    rw [hg] at CQ HLV
    clear hg
    go_wp2
    go_loopw [4, 5] (fun q t wr => ∃ (i : Nat) (a : Option Addr) (m c : Nat), i ≤ n ∧ t = .int .i64 i ∧ q = .slice a m c ∧ Hid (m = (toldL g n i).length) ∧ Hid (OwnI wr w.heap.size (.slice a m c) (upL (toldL g n i))) ∧ Hid (Below w.heap.size w wr)) (fun _ t _ => n - (intOf t).toNat)
    case atStart => exact ⟨0, _, 0, 0, Nat.zero_le _, rfl, rfl, Lib.hid rfl, HO1, HB1⟩
    case round =>
      clear HO1 HB1
      obtain ⟨i, a, m, c, hi1, rfl, rfl, hm, ho, hb⟩ := hrel
      by_cases hlt : i < n
      · have t0 : (0 : Int) ≤ i := by omega
        have t1 : (i : Int) < n := by omega
        obtain ⟨fi, hfi⟩ := lt_get (l := Fs) (i := i) (by rw [HN.out]; exact hlt)
        go_wp2
        go_loopw [6, 7] (fun q t wr => ∃ (k : Nat) (bst : Bool), k ≤ n ∧ t = .int .i64 k ∧ q = .bool bst ∧ Hid (bst = bestB g k i) ∧ Hid (OwnI wr w.heap.size (.slice a m c) (upL (toldL g n i))) ∧ Hid (Below w.heap.size w wr)) (fun _ t _ => n - (intOf t).toNat)
        case atStart => exact ⟨0, true, Nat.zero_le _, rfl, rfl, Lib.hid rfl, ho, hb⟩
        case round =>
          clear ho hb
          obtain ⟨k, bst, hk1, rfl, rfl, hbst, ho, hb⟩ := hrel
          by_cases hltk : k < n
          · have s0 : (0 : Int) ≤ k := by omega
            have s1 : (k : Int) < n := by omega
            obtain ⟨fk, hfk⟩ := lt_get (l := Fs) (i := k) (by rw [HN.out]; exact hltk)
            have hfz := HV.out wr hb.out
            obtain ⟨b, off, cc, ai, ni, di, e1, hbh, ci, ni1⟩ := forms_vals hfz hfi
            obtain ⟨b', off', cc', ak, nk, dk, e2, hbh', ck, nk1⟩ := forms_vals hfz hfk
            obtain ⟨q1, q2n, q3⟩ := slice_inj e1
            clear q2n
            rw [e1] at e2
            obtain ⟨q1', q2n, q3'⟩ := slice_inj e2
            clear q2n
            injection q1' with q1'
            injection q1' with r1 r2 _
            subst r1 r2
            subst q1
            have hws := hb.out.size
            have hbw : b < wr.heap.size := by omega
            have HC := Lib.hid fun (W : World) (hW : Below wr.heap.size wr W) => And.intro ((bcell hW b (off + i) hbw).trans ci) ((bcell hW b (off + k) hbw).trans ck)
            have G1 := Lib.hid fun (W : World) (hW : Below wr.heap.size wr W) => CQ.out _ _ fk fi k i hfk hfi W (by have := hW.size; omega) (nk1.below hW (by omega)) (ni1.below hW (by omega))
            have G2 := Lib.hid fun (W : World) (hW : Below wr.heap.size wr W) => CQ.out _ _ fi fk i k hfi hfk W (by have := hW.size; omega) (ni1.below hW (by omega)) (nk1.below hW (by omega))
            have hbd : Below wr.heap.size wr wr.drew := below_drewN (Below.refl _ _) 1
            obtain ⟨hd1, hd2⟩ := HC.out _ hbd
            have HSU := Lib.hid (bestB_succ g k i)
            have HOB := Lib.hid fun (W : World) (hW : Below wr.heap.size wr W) => own_only ho.out (Only.of_below (F := fun _ => False) hW) (fun _ _ => id)
            obtain ⟨x1, hx1⟩ : ∃ x, g k i = x := ⟨_, rfl⟩
            obtain ⟨x2, hx2⟩ : ∃ x, g i k = x := ⟨_, rfl⟩
            rw [hx1] at G1 HSU
            rw [hx2] at G2 HSU
            clear e1 e2 q3 q3' ni1 nk1 hfz hx1 hx2 hfk
            by_cases hki : k = i
            · have hkl : True := trivial
              have hx : ((k : Int) != i) = false := by simp [hki]
              go_wp2
              refine wp_region_held_drew (S := (fun W : World => W.cell? ⟨b, off + i, none⟩ = some (.slice ai ni di) ∧ W.cell? ⟨b, off + k, none⟩ = some (.slice ak nk dk))) (by kernel_rfl) ⟨hd1, hd2⟩ (fun hHeld => ?_)
              refine wpAnyH_take (i := 0) (v := ?_) rfl (by kernel_rfl) (by kernel_rfl) (by kernel_rfl) (fun _ _ _ h => h) (Or.inl ⟨by rfl, ?_⟩) hHeld ?_
              rotate_left
              · intro W hW
                obtain ⟨z1, z2⟩ := hW
                first | (go_simp; done) | (go_simp; with_reducible rfl)
              try simp only [List.getElem_toArray, List.getElem_cons_succ, List.getElem_cons_zero, Act.put, List.setIfInBounds_toArray, List.set_cons_zero, List.set_cons_succ]
              refine wpAnyH_take (i := 1) (v := ?_) rfl (by kernel_rfl) (by kernel_rfl) (by kernel_rfl) (fun _ _ _ h => h) (Or.inl ⟨by rfl, ?_⟩) hHeld ?_
              rotate_left
              · intro W hW
                obtain ⟨z1, z2⟩ := hW
                first | (go_simp; done) | (go_simp; with_reducible rfl)
              try simp only [List.getElem_toArray, List.getElem_cons_succ, List.getElem_cons_zero, Act.put, List.setIfInBounds_toArray, List.set_cons_zero, List.set_cons_succ]
              refine wpAnyH_take (i := 2) (v := ?_) rfl (by kernel_rfl) (by kernel_rfl) (by kernel_rfl) (fun _ _ _ h => h) (Or.inl ⟨by rfl, ?_⟩) hHeld ?_
              rotate_left
              · intro W hW
                obtain ⟨z1, z2⟩ := hW
                first | (go_simp; done) | (go_simp; with_reducible rfl)
              try simp only [List.getElem_toArray, List.getElem_cons_succ, List.getElem_cons_zero, Act.put, List.setIfInBounds_toArray, List.set_cons_zero, List.set_cons_succ]
              refine wpAnyH_take (i := 3) (v := ?_) rfl (by kernel_rfl) (by kernel_rfl) (by kernel_rfl) (fun _ _ _ h => h) (Or.inl ⟨by rfl, ?_⟩) hHeld ?_
              rotate_left
              · intro W hW
                obtain ⟨z1, z2⟩ := hW
                first | (go_simp; done) | (go_simp; with_reducible rfl)
              try simp only [List.getElem_toArray, List.getElem_cons_succ, List.getElem_cons_zero, Act.put, List.setIfInBounds_toArray, List.set_cons_zero, List.set_cons_succ]
              refine wpAnyH_take (i := 4) (v := undef) rfl (by kernel_rfl) (by kernel_rfl) (by kernel_rfl) (fun _ _ _ h => h) (Or.inr ⟨by rfl, rfl⟩) hHeld ?_
              try simp only [List.getElem_toArray, List.getElem_cons_succ, List.getElem_cons_zero, Act.put, List.setIfInBounds_toArray, List.set_cons_zero, List.set_cons_succ]
              refine wpAnyH_take (i := 5) (v := undef) rfl (by kernel_rfl) (by kernel_rfl) (by kernel_rfl) (fun _ _ _ h => h) (Or.inr ⟨by rfl, rfl⟩) hHeld ?_
              try simp only [List.getElem_toArray, List.getElem_cons_succ, List.getElem_cons_zero, Act.put, List.setIfInBounds_toArray, List.set_cons_zero, List.set_cons_succ]
              refine wpAnyH_take (i := 6) (v := undef) rfl (by kernel_rfl) (by kernel_rfl) (by kernel_rfl) (fun _ _ _ h => h) (Or.inr ⟨by rfl, rfl⟩) hHeld ?_
              try simp only [List.getElem_toArray, List.getElem_cons_succ, List.getElem_cons_zero, Act.put, List.setIfInBounds_toArray, List.set_cons_zero, List.set_cons_succ]
              refine wpAnyH_take (i := 7) (v := undef) rfl (by kernel_rfl) (by kernel_rfl) (by kernel_rfl) (fun _ _ _ h => h) (Or.inr ⟨by rfl, rfl⟩) hHeld ?_
              try simp only [List.getElem_toArray, List.getElem_cons_succ, List.getElem_cons_zero, Act.put, List.setIfInBounds_toArray, List.set_cons_zero, List.set_cons_succ]
              refine wpAnyH_take (i := 8) (v := undef) rfl (by kernel_rfl) (by kernel_rfl) (by kernel_rfl) (fun _ _ _ h => h) (Or.inr ⟨by rfl, rfl⟩) hHeld ?_
              try simp only [List.getElem_toArray, List.getElem_cons_succ, List.getElem_cons_zero, Act.put, List.setIfInBounds_toArray, List.set_cons_zero, List.set_cons_succ]
              refine wpAnyH_take (i := 9) (v := undef) rfl (by kernel_rfl) (by kernel_rfl) (by kernel_rfl) (fun _ _ _ h => h) (Or.inr ⟨by rfl, rfl⟩) hHeld ?_
              try simp only [List.getElem_toArray, List.getElem_cons_succ, List.getElem_cons_zero, Act.put, List.setIfInBounds_toArray, List.set_cons_zero, List.set_cons_succ]
              refine wpAnyH_take (i := 10) (v := undef) rfl (by kernel_rfl) (by kernel_rfl) (by kernel_rfl) (fun _ _ _ h => h) (Or.inr ⟨by rfl, rfl⟩) hHeld ?_
              try simp only [List.getElem_toArray, List.getElem_cons_succ, List.getElem_cons_zero, Act.put, List.setIfInBounds_toArray, List.set_cons_zero, List.set_cons_succ]
              refine wpAnyH_take (i := 11) (v := undef) rfl (by kernel_rfl) (by kernel_rfl) (by kernel_rfl) (fun _ _ _ h => h) (Or.inr ⟨by rfl, rfl⟩) hHeld ?_
              try simp only [List.getElem_toArray, List.getElem_cons_succ, List.getElem_cons_zero, Act.put, List.setIfInBounds_toArray, List.set_cons_zero, List.set_cons_succ]
              refine wpAnyH_take (i := 12) (v := undef) rfl (by kernel_rfl) (by kernel_rfl) (by kernel_rfl) (fun _ _ _ h => h) (Or.inr ⟨by rfl, rfl⟩) hHeld ?_
              try simp only [List.getElem_toArray, List.getElem_cons_succ, List.getElem_cons_zero, Act.put, List.setIfInBounds_toArray, List.set_cons_zero, List.set_cons_succ]
              refine wpAnyH_take (i := 13) (v := ?_) rfl (by kernel_rfl) (by kernel_rfl) (by kernel_rfl) (fun _ _ _ h => h) (Or.inl ⟨by rfl, ?_⟩) hHeld ?_
              rotate_left
              · intro W hW
                obtain ⟨z1, z2⟩ := hW
                first | (go_simp; done) | (go_simp; with_reducible rfl)
              try simp only [List.getElem_toArray, List.getElem_cons_succ, List.getElem_cons_zero, Act.put, List.setIfInBounds_toArray, List.set_cons_zero, List.set_cons_succ]
              refine wpAnyH_take (i := 14) (v := ?_) rfl (by kernel_rfl) (by kernel_rfl) (by kernel_rfl) (fun _ _ _ h => h) (Or.inl ⟨by rfl, ?_⟩) hHeld ?_
              rotate_left
              · intro W hW
                obtain ⟨z1, z2⟩ := hW
                first | (go_simp; done) | (go_simp; with_reducible rfl)
              try simp only [List.getElem_toArray, List.getElem_cons_succ, List.getElem_cons_zero, Act.put, List.setIfInBounds_toArray, List.set_cons_zero, List.set_cons_succ]
              refine wpAnyH_take (i := 15) (v := undef) rfl (by kernel_rfl) (by kernel_rfl) (by kernel_rfl) (fun _ _ _ h => h) (Or.inr ⟨by rfl, rfl⟩) hHeld ?_
              try simp only [List.getElem_toArray, List.getElem_cons_succ, List.getElem_cons_zero, Act.put, List.setIfInBounds_toArray, List.set_cons_zero, List.set_cons_succ]
              refine wpAnyH_take (i := 16) (v := undef) rfl (by kernel_rfl) (by kernel_rfl) (by kernel_rfl) (fun _ _ _ h => h) (Or.inr ⟨by rfl, rfl⟩) hHeld ?_
              try simp only [List.getElem_toArray, List.getElem_cons_succ, List.getElem_cons_zero, Act.put, List.setIfInBounds_toArray, List.set_cons_zero, List.set_cons_succ]
              refine wpAnyH_take (i := 17) (v := undef) rfl (by kernel_rfl) (by kernel_rfl) (by kernel_rfl) (fun _ _ _ h => h) (Or.inr ⟨by rfl, rfl⟩) hHeld ?_
              try simp only [List.getElem_toArray, List.getElem_cons_succ, List.getElem_cons_zero, Act.put, List.setIfInBounds_toArray, List.set_cons_zero, List.set_cons_succ]
              refine wpAnyH_take (i := 18) (v := undef) rfl (by kernel_rfl) (by kernel_rfl) (by kernel_rfl) (fun _ _ _ h => h) (Or.inr ⟨by rfl, rfl⟩) hHeld ?_
              try simp only [List.getElem_toArray, List.getElem_cons_succ, List.getElem_cons_zero, Act.put, List.setIfInBounds_toArray, List.set_cons_zero, List.set_cons_succ]
              refine wpAnyH_take (i := 19) (v := undef) rfl (by kernel_rfl) (by kernel_rfl) (by kernel_rfl) (fun _ _ _ h => h) (Or.inr ⟨by rfl, rfl⟩) hHeld ?_
              try simp only [List.getElem_toArray, List.getElem_cons_succ, List.getElem_cons_zero, Act.put, List.setIfInBounds_toArray, List.set_cons_zero, List.set_cons_succ]
              refine wpAnyH_take (i := 20) (v := undef) rfl (by kernel_rfl) (by kernel_rfl) (by kernel_rfl) (fun _ _ _ h => h) (Or.inr ⟨by rfl, rfl⟩) hHeld ?_
              try simp only [List.getElem_toArray, List.getElem_cons_succ, List.getElem_cons_zero, Act.put, List.setIfInBounds_toArray, List.set_cons_zero, List.set_cons_succ]
              refine wpAnyH_take (i := 21) (v := undef) rfl (by kernel_rfl) (by kernel_rfl) (by kernel_rfl) (fun _ _ _ h => h) (Or.inr ⟨by rfl, rfl⟩) hHeld ?_
              try simp only [List.getElem_toArray, List.getElem_cons_succ, List.getElem_cons_zero, Act.put, List.setIfInBounds_toArray, List.set_cons_zero, List.set_cons_succ]
              refine wpAnyH_take (i := 22) (v := undef) rfl (by kernel_rfl) (by kernel_rfl) (by kernel_rfl) (fun _ _ _ h => h) (Or.inr ⟨by rfl, rfl⟩) hHeld ?_
              try simp only [List.getElem_toArray, List.getElem_cons_succ, List.getElem_cons_zero, Act.put, List.setIfInBounds_toArray, List.set_cons_zero, List.set_cons_succ]
              refine wpAnyH_take (i := 23) (v := undef) rfl (by kernel_rfl) (by kernel_rfl) (by kernel_rfl) (fun _ _ _ h => h) (Or.inr ⟨by rfl, rfl⟩) hHeld ?_
              try simp only [List.getElem_toArray, List.getElem_cons_succ, List.getElem_cons_zero, Act.put, List.setIfInBounds_toArray, List.set_cons_zero, List.set_cons_succ]
              refine wpAnyH_take (i := 24) (v := undef) rfl (by kernel_rfl) (by kernel_rfl) (by kernel_rfl) (fun _ _ _ h => h) (Or.inr ⟨by rfl, rfl⟩) hHeld ?_
              try simp only [List.getElem_toArray, List.getElem_cons_succ, List.getElem_cons_zero, Act.put, List.setIfInBounds_toArray, List.set_cons_zero, List.set_cons_succ]
              refine wpAnyH_take (i := 25) (v := undef) rfl (by kernel_rfl) (by kernel_rfl) (by kernel_rfl) (fun _ _ _ h => h) (Or.inr ⟨by rfl, rfl⟩) hHeld ?_
              try simp only [List.getElem_toArray, List.getElem_cons_succ, List.getElem_cons_zero, Act.put, List.setIfInBounds_toArray, List.set_cons_zero, List.set_cons_succ]
              refine wpAnyH_take (i := 26) (v := undef) rfl (by kernel_rfl) (by kernel_rfl) (by kernel_rfl) (fun _ _ _ h => h) (Or.inr ⟨by rfl, rfl⟩) hHeld ?_
              try simp only [List.getElem_toArray, List.getElem_cons_succ, List.getElem_cons_zero, Act.put, List.setIfInBounds_toArray, List.set_cons_zero, List.set_cons_succ]
              refine wpAnyH_take (i := 27) (v := undef) rfl (by kernel_rfl) (by kernel_rfl) (by kernel_rfl) (fun _ _ _ h => h) (Or.inr ⟨by rfl, rfl⟩) hHeld ?_
              try simp only [List.getElem_toArray, List.getElem_cons_succ, List.getElem_cons_zero, Act.put, List.setIfInBounds_toArray, List.set_cons_zero, List.set_cons_succ]
              refine wpAnyH_take (i := 28) (v := undef) rfl (by kernel_rfl) (by kernel_rfl) (by kernel_rfl) (fun _ _ _ h => h) (Or.inr ⟨by rfl, rfl⟩) hHeld ?_
              try simp only [List.getElem_toArray, List.getElem_cons_succ, List.getElem_cons_zero, Act.put, List.setIfInBounds_toArray, List.set_cons_zero, List.set_cons_succ]
              refine wpAnyH_take (i := 29) (v := undef) rfl (by kernel_rfl) (by kernel_rfl) (by kernel_rfl) (fun _ _ _ h => h) (Or.inr ⟨by rfl, rfl⟩) hHeld ?_
              try simp only [List.getElem_toArray, List.getElem_cons_succ, List.getElem_cons_zero, Act.put, List.setIfInBounds_toArray, List.set_cons_zero, List.set_cons_succ]
              refine wpAnyH_take (i := 30) (v := ?_) rfl (by kernel_rfl) (by kernel_rfl) (by kernel_rfl) (fun _ _ _ h => h) (Or.inl ⟨by rfl, ?_⟩) hHeld ?_
              rotate_left
              · intro W hW
                obtain ⟨z1, z2⟩ := hW
                first | (go_simp; done) | (go_simp; with_reducible rfl)
              try simp only [List.getElem_toArray, List.getElem_cons_succ, List.getElem_cons_zero, Act.put, List.setIfInBounds_toArray, List.set_cons_zero, List.set_cons_succ]
              refine wpAnyH_done (by kernel_rfl) ?_ _
              have N1 := Lib.hid (HOB.out _ hbd)
              have N2 := Lib.hid (hb.out.trans ((hbd).mono hws))
              have N3 : Hid (bst = bestB g (k + 1) i) := Lib.hid (by rw [HSU.out, ← hbst.out]; simp [hki, hkl])
              clear HOB hb ho G1 G2 HC HSU hbst
              go_wp2
              go_roundw
              case rel => exact ⟨k + 1, bst, by omega, by go_num, rfl, N3, N1, N2⟩
              case measure => first | (simp [intOf]; done) | (simp [intOf]; omega)
            · have hx : ((k : Int) != i) = true := by rw [bne_iff_ne]; omega
              cases x1 with
              | false =>
                have hkl : True := trivial
                go_wp2
                refine wp_region_held_drew (S := (fun W : World => W.cell? ⟨b, off + i, none⟩ = some (.slice ai ni di) ∧ W.cell? ⟨b, off + k, none⟩ = some (.slice ak nk dk))) (by kernel_rfl) ⟨hd1, hd2⟩ (fun hHeld => ?_)
                refine wpAnyH_take (i := 0) (v := ?_) rfl (by kernel_rfl) (by kernel_rfl) (by kernel_rfl) (fun _ _ _ h => h) (Or.inl ⟨by rfl, ?_⟩) hHeld ?_
                rotate_left
                · intro W hW
                  obtain ⟨z1, z2⟩ := hW
                  first | (go_simp; done) | (go_simp; with_reducible rfl)
                try simp only [List.getElem_toArray, List.getElem_cons_succ, List.getElem_cons_zero, Act.put, List.setIfInBounds_toArray, List.set_cons_zero, List.set_cons_succ]
                refine wpAnyH_take (i := 1) (v := ?_) rfl (by kernel_rfl) (by kernel_rfl) (by kernel_rfl) (fun _ _ _ h => h) (Or.inl ⟨by rfl, ?_⟩) hHeld ?_
                rotate_left
                · intro W hW
                  obtain ⟨z1, z2⟩ := hW
                  first | (go_simp; done) | (go_simp; with_reducible rfl)
                try simp only [List.getElem_toArray, List.getElem_cons_succ, List.getElem_cons_zero, Act.put, List.setIfInBounds_toArray, List.set_cons_zero, List.set_cons_succ]
                refine wpAnyH_take (i := 2) (v := ?_) rfl (by kernel_rfl) (by kernel_rfl) (by kernel_rfl) (fun _ _ _ h => h) (Or.inl ⟨by rfl, ?_⟩) hHeld ?_
                rotate_left
                · intro W hW
                  obtain ⟨z1, z2⟩ := hW
                  first | (go_simp; done) | (go_simp; with_reducible rfl)
                try simp only [List.getElem_toArray, List.getElem_cons_succ, List.getElem_cons_zero, Act.put, List.setIfInBounds_toArray, List.set_cons_zero, List.set_cons_succ]
                refine wpAnyH_take (i := 3) (v := ?_) rfl (by kernel_rfl) (by kernel_rfl) (by kernel_rfl) (fun _ _ _ h => h) (Or.inl ⟨by rfl, ?_⟩) hHeld ?_
                rotate_left
                · intro W hW
                  obtain ⟨z1, z2⟩ := hW
                  first | (go_simp; done) | (go_simp; with_reducible rfl)
                try simp only [List.getElem_toArray, List.getElem_cons_succ, List.getElem_cons_zero, Act.put, List.setIfInBounds_toArray, List.set_cons_zero, List.set_cons_succ]
                refine wpAnyH_take (i := 4) (v := ?_) rfl (by kernel_rfl) (by kernel_rfl) (by kernel_rfl) (fun _ _ _ h => h) (Or.inl ⟨by rfl, ?_⟩) hHeld ?_
                rotate_left
                · intro W hW
                  obtain ⟨z1, z2⟩ := hW
                  first | (go_simp; done) | (go_simp; with_reducible rfl)
                try simp only [List.getElem_toArray, List.getElem_cons_succ, List.getElem_cons_zero, Act.put, List.setIfInBounds_toArray, List.set_cons_zero, List.set_cons_succ]
                refine wpAnyH_take (i := 5) (v := ?_) rfl (by kernel_rfl) (by kernel_rfl) (by kernel_rfl) (fun _ _ _ h => h) (Or.inl ⟨by rfl, ?_⟩) hHeld ?_
                rotate_left
                · intro W hW
                  obtain ⟨z1, z2⟩ := hW
                  first | (go_simp; done) | (go_simp; with_reducible rfl)
                try simp only [List.getElem_toArray, List.getElem_cons_succ, List.getElem_cons_zero, Act.put, List.setIfInBounds_toArray, List.set_cons_zero, List.set_cons_succ]
                refine wpAnyH_take (i := 6) (v := ?_) rfl (by kernel_rfl) (by kernel_rfl) (by kernel_rfl) (fun _ _ _ h => h) (Or.inl ⟨by rfl, ?_⟩) hHeld ?_
                rotate_left
                · intro W hW
                  obtain ⟨z1, z2⟩ := hW
                  first | (go_simp; done) | (go_simp; with_reducible rfl)
                try simp only [List.getElem_toArray, List.getElem_cons_succ, List.getElem_cons_zero, Act.put, List.setIfInBounds_toArray, List.set_cons_zero, List.set_cons_succ]
                refine wpAnyH_take (i := 7) (v := ?_) rfl (by kernel_rfl) (by kernel_rfl) (by kernel_rfl) (fun _ _ _ h => h) (Or.inl ⟨by rfl, ?_⟩) hHeld ?_
                rotate_left
                · intro W hW
                  obtain ⟨z1, z2⟩ := hW
                  first | (go_simp; done) | (go_simp; with_reducible rfl)
                try simp only [List.getElem_toArray, List.getElem_cons_succ, List.getElem_cons_zero, Act.put, List.setIfInBounds_toArray, List.set_cons_zero, List.set_cons_succ]
                refine wpAnyH_take (i := 8) (v := ?_) rfl (by kernel_rfl) (by kernel_rfl) (by kernel_rfl) (fun _ _ _ h => h) (Or.inl ⟨by rfl, ?_⟩) hHeld ?_
                rotate_left
                · intro W hW
                  obtain ⟨z1, z2⟩ := hW
                  first | (go_simp; done) | (go_simp; with_reducible rfl)
                try simp only [List.getElem_toArray, List.getElem_cons_succ, List.getElem_cons_zero, Act.put, List.setIfInBounds_toArray, List.set_cons_zero, List.set_cons_succ]
                refine wpAnyH_take (i := 9) (v := ?_) rfl (by kernel_rfl) (by kernel_rfl) (by kernel_rfl) (fun _ _ _ h => h) (Or.inl ⟨by rfl, ?_⟩) hHeld ?_
                rotate_left
                · intro W hW
                  obtain ⟨z1, z2⟩ := hW
                  first | (go_simp; done) | (go_simp; with_reducible rfl)
                try simp only [List.getElem_toArray, List.getElem_cons_succ, List.getElem_cons_zero, Act.put, List.setIfInBounds_toArray, List.set_cons_zero, List.set_cons_succ]
                refine wpAnyH_take (i := 10) (v := ?_) rfl (by kernel_rfl) (by kernel_rfl) (by kernel_rfl) (fun _ _ _ h => h) (Or.inl ⟨by rfl, ?_⟩) hHeld ?_
                rotate_left
                · intro W hW
                  obtain ⟨z1, z2⟩ := hW
                  first | (go_simp; done) | (go_simp; with_reducible rfl)
                try simp only [List.getElem_toArray, List.getElem_cons_succ, List.getElem_cons_zero, Act.put, List.setIfInBounds_toArray, List.set_cons_zero, List.set_cons_succ]
                refine wpAnyH_take (i := 11) (v := ?_) rfl (by kernel_rfl) (by kernel_rfl) (by kernel_rfl) (fun _ _ _ h => h) (Or.inl ⟨by rfl, ?_⟩) hHeld ?_
                rotate_left
                · intro W hW
                  obtain ⟨z1, z2⟩ := hW
                  first | (go_simp; done) | (go_simp; with_reducible rfl)
                try simp only [List.getElem_toArray, List.getElem_cons_succ, List.getElem_cons_zero, Act.put, List.setIfInBounds_toArray, List.set_cons_zero, List.set_cons_succ]
                refine wpAnyH_ready (rs := [12]) (by kernel_rfl) (by simp) ?_
                refine AllReadyH.cons rfl (fun K hK => ?_) AllReadyH.nil
                go_simp
                go_at_call 36
                refine (G1.out _ hbd).mono ?_
                rintro e wa ⟨rfl, hba⟩
                have HBa : Below wr.heap.size wr wa := hbd.trans (hba)
                go_wp2_with fail
                refine hK.out _ _ (HC.out _ HBa) (fun hH2 => ?_)
                clear hK K
                try simp only [List.getElem_toArray, List.getElem_cons_succ, List.getElem_cons_zero, Act.put, List.setIfInBounds_toArray, List.set_cons_zero, List.set_cons_succ]
                refine wpAnyH_take (i := 13) (v := ?_) rfl (by kernel_rfl) (by kernel_rfl) (by kernel_rfl) (fun _ _ _ h => h) (Or.inl ⟨by rfl, ?_⟩) hH2 ?_
                rotate_left
                · intro W hW
                  obtain ⟨z1, z2⟩ := hW
                  first | (go_simp; done) | (go_simp; with_reducible rfl)
                try simp only [List.getElem_toArray, List.getElem_cons_succ, List.getElem_cons_zero, Act.put, List.setIfInBounds_toArray, List.set_cons_zero, List.set_cons_succ]
                refine wpAnyH_take (i := 14) (v := ?_) rfl (by kernel_rfl) (by kernel_rfl) (by kernel_rfl) (fun _ _ _ h => h) (Or.inl ⟨by rfl, ?_⟩) hH2 ?_
                rotate_left
                · intro W hW
                  obtain ⟨z1, z2⟩ := hW
                  first | (go_simp; done) | (go_simp; with_reducible rfl)
                try simp only [List.getElem_toArray, List.getElem_cons_succ, List.getElem_cons_zero, Act.put, List.setIfInBounds_toArray, List.set_cons_zero, List.set_cons_succ]
                refine wpAnyH_take (i := 15) (v := undef) rfl (by kernel_rfl) (by kernel_rfl) (by kernel_rfl) (fun _ _ _ h => h) (Or.inr ⟨by rfl, rfl⟩) hH2 ?_
                try simp only [List.getElem_toArray, List.getElem_cons_succ, List.getElem_cons_zero, Act.put, List.setIfInBounds_toArray, List.set_cons_zero, List.set_cons_succ]
                refine wpAnyH_take (i := 16) (v := undef) rfl (by kernel_rfl) (by kernel_rfl) (by kernel_rfl) (fun _ _ _ h => h) (Or.inr ⟨by rfl, rfl⟩) hH2 ?_
                try simp only [List.getElem_toArray, List.getElem_cons_succ, List.getElem_cons_zero, Act.put, List.setIfInBounds_toArray, List.set_cons_zero, List.set_cons_succ]
                refine wpAnyH_take (i := 17) (v := undef) rfl (by kernel_rfl) (by kernel_rfl) (by kernel_rfl) (fun _ _ _ h => h) (Or.inr ⟨by rfl, rfl⟩) hH2 ?_
                try simp only [List.getElem_toArray, List.getElem_cons_succ, List.getElem_cons_zero, Act.put, List.setIfInBounds_toArray, List.set_cons_zero, List.set_cons_succ]
                refine wpAnyH_take (i := 18) (v := undef) rfl (by kernel_rfl) (by kernel_rfl) (by kernel_rfl) (fun _ _ _ h => h) (Or.inr ⟨by rfl, rfl⟩) hH2 ?_
                try simp only [List.getElem_toArray, List.getElem_cons_succ, List.getElem_cons_zero, Act.put, List.setIfInBounds_toArray, List.set_cons_zero, List.set_cons_succ]
                refine wpAnyH_take (i := 19) (v := undef) rfl (by kernel_rfl) (by kernel_rfl) (by kernel_rfl) (fun _ _ _ h => h) (Or.inr ⟨by rfl, rfl⟩) hH2 ?_
                try simp only [List.getElem_toArray, List.getElem_cons_succ, List.getElem_cons_zero, Act.put, List.setIfInBounds_toArray, List.set_cons_zero, List.set_cons_succ]
                refine wpAnyH_take (i := 20) (v := undef) rfl (by kernel_rfl) (by kernel_rfl) (by kernel_rfl) (fun _ _ _ h => h) (Or.inr ⟨by rfl, rfl⟩) hH2 ?_
                try simp only [List.getElem_toArray, List.getElem_cons_succ, List.getElem_cons_zero, Act.put, List.setIfInBounds_toArray, List.set_cons_zero, List.set_cons_succ]
                refine wpAnyH_take (i := 21) (v := undef) rfl (by kernel_rfl) (by kernel_rfl) (by kernel_rfl) (fun _ _ _ h => h) (Or.inr ⟨by rfl, rfl⟩) hH2 ?_
                try simp only [List.getElem_toArray, List.getElem_cons_succ, List.getElem_cons_zero, Act.put, List.setIfInBounds_toArray, List.set_cons_zero, List.set_cons_succ]
                refine wpAnyH_take (i := 22) (v := undef) rfl (by kernel_rfl) (by kernel_rfl) (by kernel_rfl) (fun _ _ _ h => h) (Or.inr ⟨by rfl, rfl⟩) hH2 ?_
                try simp only [List.getElem_toArray, List.getElem_cons_succ, List.getElem_cons_zero, Act.put, List.setIfInBounds_toArray, List.set_cons_zero, List.set_cons_succ]
                refine wpAnyH_take (i := 23) (v := undef) rfl (by kernel_rfl) (by kernel_rfl) (by kernel_rfl) (fun _ _ _ h => h) (Or.inr ⟨by rfl, rfl⟩) hH2 ?_
                try simp only [List.getElem_toArray, List.getElem_cons_succ, List.getElem_cons_zero, Act.put, List.setIfInBounds_toArray, List.set_cons_zero, List.set_cons_succ]
                refine wpAnyH_take (i := 24) (v := undef) rfl (by kernel_rfl) (by kernel_rfl) (by kernel_rfl) (fun _ _ _ h => h) (Or.inr ⟨by rfl, rfl⟩) hH2 ?_
                try simp only [List.getElem_toArray, List.getElem_cons_succ, List.getElem_cons_zero, Act.put, List.setIfInBounds_toArray, List.set_cons_zero, List.set_cons_succ]
                refine wpAnyH_take (i := 25) (v := undef) rfl (by kernel_rfl) (by kernel_rfl) (by kernel_rfl) (fun _ _ _ h => h) (Or.inr ⟨by rfl, rfl⟩) hH2 ?_
                try simp only [List.getElem_toArray, List.getElem_cons_succ, List.getElem_cons_zero, Act.put, List.setIfInBounds_toArray, List.set_cons_zero, List.set_cons_succ]
                refine wpAnyH_take (i := 26) (v := undef) rfl (by kernel_rfl) (by kernel_rfl) (by kernel_rfl) (fun _ _ _ h => h) (Or.inr ⟨by rfl, rfl⟩) hH2 ?_
                try simp only [List.getElem_toArray, List.getElem_cons_succ, List.getElem_cons_zero, Act.put, List.setIfInBounds_toArray, List.set_cons_zero, List.set_cons_succ]
                refine wpAnyH_take (i := 27) (v := undef) rfl (by kernel_rfl) (by kernel_rfl) (by kernel_rfl) (fun _ _ _ h => h) (Or.inr ⟨by rfl, rfl⟩) hH2 ?_
                try simp only [List.getElem_toArray, List.getElem_cons_succ, List.getElem_cons_zero, Act.put, List.setIfInBounds_toArray, List.set_cons_zero, List.set_cons_succ]
                refine wpAnyH_take (i := 28) (v := undef) rfl (by kernel_rfl) (by kernel_rfl) (by kernel_rfl) (fun _ _ _ h => h) (Or.inr ⟨by rfl, rfl⟩) hH2 ?_
                try simp only [List.getElem_toArray, List.getElem_cons_succ, List.getElem_cons_zero, Act.put, List.setIfInBounds_toArray, List.set_cons_zero, List.set_cons_succ]
                refine wpAnyH_take (i := 29) (v := undef) rfl (by kernel_rfl) (by kernel_rfl) (by kernel_rfl) (fun _ _ _ h => h) (Or.inr ⟨by rfl, rfl⟩) hH2 ?_
                try simp only [List.getElem_toArray, List.getElem_cons_succ, List.getElem_cons_zero, Act.put, List.setIfInBounds_toArray, List.set_cons_zero, List.set_cons_succ]
                refine wpAnyH_take (i := 30) (v := ?_) rfl (by kernel_rfl) (by kernel_rfl) (by kernel_rfl) (fun _ _ _ h => h) (Or.inl ⟨by rfl, ?_⟩) hH2 ?_
                rotate_left
                · intro W hW
                  obtain ⟨z1, z2⟩ := hW
                  first | (go_simp; done) | (go_simp; with_reducible rfl)
                try simp only [List.getElem_toArray, List.getElem_cons_succ, List.getElem_cons_zero, Act.put, List.setIfInBounds_toArray, List.set_cons_zero, List.set_cons_succ]
                refine wpAnyH_done (by kernel_rfl) ?_ _
                have N1 := Lib.hid (HOB.out _ HBa)
                have N2 := Lib.hid (hb.out.trans ((HBa).mono hws))
                have N3 : Hid (bst = bestB g (k + 1) i) := Lib.hid (by rw [HSU.out, ← hbst.out]; simp [hki, hkl])
                clear HOB hb ho G1 G2 HC HSU hbst
                go_wp2
                go_roundw
                case rel => exact ⟨k + 1, bst, by omega, by go_num, rfl, N3, N1, N2⟩
                case measure => first | (simp [intOf]; done) | (simp [intOf]; omega)
              | true =>
                by_cases hkl : k < i
                · have hy : (k : Int) < i := by omega
                  go_wp2
                  refine wp_region_held_drew (S := (fun W : World => W.cell? ⟨b, off + i, none⟩ = some (.slice ai ni di) ∧ W.cell? ⟨b, off + k, none⟩ = some (.slice ak nk dk))) (by kernel_rfl) ⟨hd1, hd2⟩ (fun hHeld => ?_)
                  refine wpAnyH_take (i := 0) (v := ?_) rfl (by kernel_rfl) (by kernel_rfl) (by kernel_rfl) (fun _ _ _ h => h) (Or.inl ⟨by rfl, ?_⟩) hHeld ?_
                  rotate_left
                  · intro W hW
                    obtain ⟨z1, z2⟩ := hW
                    first | (go_simp; done) | (go_simp; with_reducible rfl)
                  try simp only [List.getElem_toArray, List.getElem_cons_succ, List.getElem_cons_zero, Act.put, List.setIfInBounds_toArray, List.set_cons_zero, List.set_cons_succ]
                  refine wpAnyH_take (i := 1) (v := ?_) rfl (by kernel_rfl) (by kernel_rfl) (by kernel_rfl) (fun _ _ _ h => h) (Or.inl ⟨by rfl, ?_⟩) hHeld ?_
                  rotate_left
                  · intro W hW
                    obtain ⟨z1, z2⟩ := hW
                    first | (go_simp; done) | (go_simp; with_reducible rfl)
                  try simp only [List.getElem_toArray, List.getElem_cons_succ, List.getElem_cons_zero, Act.put, List.setIfInBounds_toArray, List.set_cons_zero, List.set_cons_succ]
                  refine wpAnyH_take (i := 2) (v := ?_) rfl (by kernel_rfl) (by kernel_rfl) (by kernel_rfl) (fun _ _ _ h => h) (Or.inl ⟨by rfl, ?_⟩) hHeld ?_
                  rotate_left
                  · intro W hW
                    obtain ⟨z1, z2⟩ := hW
                    first | (go_simp; done) | (go_simp; with_reducible rfl)
                  try simp only [List.getElem_toArray, List.getElem_cons_succ, List.getElem_cons_zero, Act.put, List.setIfInBounds_toArray, List.set_cons_zero, List.set_cons_succ]
                  refine wpAnyH_take (i := 3) (v := ?_) rfl (by kernel_rfl) (by kernel_rfl) (by kernel_rfl) (fun _ _ _ h => h) (Or.inl ⟨by rfl, ?_⟩) hHeld ?_
                  rotate_left
                  · intro W hW
                    obtain ⟨z1, z2⟩ := hW
                    first | (go_simp; done) | (go_simp; with_reducible rfl)
                  try simp only [List.getElem_toArray, List.getElem_cons_succ, List.getElem_cons_zero, Act.put, List.setIfInBounds_toArray, List.set_cons_zero, List.set_cons_succ]
                  refine wpAnyH_take (i := 4) (v := ?_) rfl (by kernel_rfl) (by kernel_rfl) (by kernel_rfl) (fun _ _ _ h => h) (Or.inl ⟨by rfl, ?_⟩) hHeld ?_
                  rotate_left
                  · intro W hW
                    obtain ⟨z1, z2⟩ := hW
                    first | (go_simp; done) | (go_simp; with_reducible rfl)
                  try simp only [List.getElem_toArray, List.getElem_cons_succ, List.getElem_cons_zero, Act.put, List.setIfInBounds_toArray, List.set_cons_zero, List.set_cons_succ]
                  refine wpAnyH_take (i := 5) (v := ?_) rfl (by kernel_rfl) (by kernel_rfl) (by kernel_rfl) (fun _ _ _ h => h) (Or.inl ⟨by rfl, ?_⟩) hHeld ?_
                  rotate_left
                  · intro W hW
                    obtain ⟨z1, z2⟩ := hW
                    first | (go_simp; done) | (go_simp; with_reducible rfl)
                  try simp only [List.getElem_toArray, List.getElem_cons_succ, List.getElem_cons_zero, Act.put, List.setIfInBounds_toArray, List.set_cons_zero, List.set_cons_succ]
                  refine wpAnyH_take (i := 6) (v := ?_) rfl (by kernel_rfl) (by kernel_rfl) (by kernel_rfl) (fun _ _ _ h => h) (Or.inl ⟨by rfl, ?_⟩) hHeld ?_
                  rotate_left
                  · intro W hW
                    obtain ⟨z1, z2⟩ := hW
                    first | (go_simp; done) | (go_simp; with_reducible rfl)
                  try simp only [List.getElem_toArray, List.getElem_cons_succ, List.getElem_cons_zero, Act.put, List.setIfInBounds_toArray, List.set_cons_zero, List.set_cons_succ]
                  refine wpAnyH_take (i := 7) (v := ?_) rfl (by kernel_rfl) (by kernel_rfl) (by kernel_rfl) (fun _ _ _ h => h) (Or.inl ⟨by rfl, ?_⟩) hHeld ?_
                  rotate_left
                  · intro W hW
                    obtain ⟨z1, z2⟩ := hW
                    first | (go_simp; done) | (go_simp; with_reducible rfl)
                  try simp only [List.getElem_toArray, List.getElem_cons_succ, List.getElem_cons_zero, Act.put, List.setIfInBounds_toArray, List.set_cons_zero, List.set_cons_succ]
                  refine wpAnyH_take (i := 8) (v := ?_) rfl (by kernel_rfl) (by kernel_rfl) (by kernel_rfl) (fun _ _ _ h => h) (Or.inl ⟨by rfl, ?_⟩) hHeld ?_
                  rotate_left
                  · intro W hW
                    obtain ⟨z1, z2⟩ := hW
                    first | (go_simp; done) | (go_simp; with_reducible rfl)
                  try simp only [List.getElem_toArray, List.getElem_cons_succ, List.getElem_cons_zero, Act.put, List.setIfInBounds_toArray, List.set_cons_zero, List.set_cons_succ]
                  refine wpAnyH_take (i := 9) (v := ?_) rfl (by kernel_rfl) (by kernel_rfl) (by kernel_rfl) (fun _ _ _ h => h) (Or.inl ⟨by rfl, ?_⟩) hHeld ?_
                  rotate_left
                  · intro W hW
                    obtain ⟨z1, z2⟩ := hW
                    first | (go_simp; done) | (go_simp; with_reducible rfl)
                  try simp only [List.getElem_toArray, List.getElem_cons_succ, List.getElem_cons_zero, Act.put, List.setIfInBounds_toArray, List.set_cons_zero, List.set_cons_succ]
                  refine wpAnyH_take (i := 10) (v := ?_) rfl (by kernel_rfl) (by kernel_rfl) (by kernel_rfl) (fun _ _ _ h => h) (Or.inl ⟨by rfl, ?_⟩) hHeld ?_
                  rotate_left
                  · intro W hW
                    obtain ⟨z1, z2⟩ := hW
                    first | (go_simp; done) | (go_simp; with_reducible rfl)
                  try simp only [List.getElem_toArray, List.getElem_cons_succ, List.getElem_cons_zero, Act.put, List.setIfInBounds_toArray, List.set_cons_zero, List.set_cons_succ]
                  refine wpAnyH_take (i := 11) (v := ?_) rfl (by kernel_rfl) (by kernel_rfl) (by kernel_rfl) (fun _ _ _ h => h) (Or.inl ⟨by rfl, ?_⟩) hHeld ?_
                  rotate_left
                  · intro W hW
                    obtain ⟨z1, z2⟩ := hW
                    first | (go_simp; done) | (go_simp; with_reducible rfl)
                  try simp only [List.getElem_toArray, List.getElem_cons_succ, List.getElem_cons_zero, Act.put, List.setIfInBounds_toArray, List.set_cons_zero, List.set_cons_succ]
                  refine wpAnyH_ready (rs := [12]) (by kernel_rfl) (by simp) ?_
                  refine AllReadyH.cons rfl (fun K hK => ?_) AllReadyH.nil
                  go_simp
                  go_at_call 36
                  refine (G1.out _ hbd).mono ?_
                  rintro e wa ⟨rfl, hba⟩
                  have HBa : Below wr.heap.size wr wa := hbd.trans (hba)
                  go_wp2_with fail
                  refine hK.out _ _ (HC.out _ HBa) (fun hH2 => ?_)
                  clear hK K
                  try simp only [List.getElem_toArray, List.getElem_cons_succ, List.getElem_cons_zero, Act.put, List.setIfInBounds_toArray, List.set_cons_zero, List.set_cons_succ]
                  refine wpAnyH_take (i := 13) (v := ?_) rfl (by kernel_rfl) (by kernel_rfl) (by kernel_rfl) (fun _ _ _ h => h) (Or.inl ⟨by rfl, ?_⟩) hH2 ?_
                  rotate_left
                  · intro W hW
                    obtain ⟨z1, z2⟩ := hW
                    first | (go_simp; done) | (go_simp; with_reducible rfl)
                  try simp only [List.getElem_toArray, List.getElem_cons_succ, List.getElem_cons_zero, Act.put, List.setIfInBounds_toArray, List.set_cons_zero, List.set_cons_succ]
                  refine wpAnyH_take (i := 14) (v := ?_) rfl (by kernel_rfl) (by kernel_rfl) (by kernel_rfl) (fun _ _ _ h => h) (Or.inl ⟨by rfl, ?_⟩) hH2 ?_
                  rotate_left
                  · intro W hW
                    obtain ⟨z1, z2⟩ := hW
                    first | (go_simp; done) | (go_simp; with_reducible rfl)
                  try simp only [List.getElem_toArray, List.getElem_cons_succ, List.getElem_cons_zero, Act.put, List.setIfInBounds_toArray, List.set_cons_zero, List.set_cons_succ]
                  refine wpAnyH_take (i := 15) (v := ?_) rfl (by kernel_rfl) (by kernel_rfl) (by kernel_rfl) (fun _ _ _ h => h) (Or.inl ⟨by rfl, ?_⟩) hH2 ?_
                  rotate_left
                  · intro W hW
                    obtain ⟨z1, z2⟩ := hW
                    first | (go_simp; done) | (go_simp; with_reducible rfl)
                  try simp only [List.getElem_toArray, List.getElem_cons_succ, List.getElem_cons_zero, Act.put, List.setIfInBounds_toArray, List.set_cons_zero, List.set_cons_succ]
                  refine wpAnyH_take (i := 16) (v := ?_) rfl (by kernel_rfl) (by kernel_rfl) (by kernel_rfl) (fun _ _ _ h => h) (Or.inl ⟨by rfl, ?_⟩) hH2 ?_
                  rotate_left
                  · intro W hW
                    obtain ⟨z1, z2⟩ := hW
                    first | (go_simp; done) | (go_simp; with_reducible rfl)
                  try simp only [List.getElem_toArray, List.getElem_cons_succ, List.getElem_cons_zero, Act.put, List.setIfInBounds_toArray, List.set_cons_zero, List.set_cons_succ]
                  refine wpAnyH_take (i := 17) (v := ?_) rfl (by kernel_rfl) (by kernel_rfl) (by kernel_rfl) (fun _ _ _ h => h) (Or.inl ⟨by rfl, ?_⟩) hH2 ?_
                  rotate_left
                  · intro W hW
                    obtain ⟨z1, z2⟩ := hW
                    first | (go_simp; done) | (go_simp; with_reducible rfl)
                  try simp only [List.getElem_toArray, List.getElem_cons_succ, List.getElem_cons_zero, Act.put, List.setIfInBounds_toArray, List.set_cons_zero, List.set_cons_succ]
                  refine wpAnyH_take (i := 18) (v := ?_) rfl (by kernel_rfl) (by kernel_rfl) (by kernel_rfl) (fun _ _ _ h => h) (Or.inl ⟨by rfl, ?_⟩) hH2 ?_
                  rotate_left
                  · intro W hW
                    obtain ⟨z1, z2⟩ := hW
                    first | (go_simp; done) | (go_simp; with_reducible rfl)
                  try simp only [List.getElem_toArray, List.getElem_cons_succ, List.getElem_cons_zero, Act.put, List.setIfInBounds_toArray, List.set_cons_zero, List.set_cons_succ]
                  refine wpAnyH_take (i := 19) (v := undef) rfl (by kernel_rfl) (by kernel_rfl) (by kernel_rfl) (fun _ _ _ h => h) (Or.inr ⟨by rfl, rfl⟩) hH2 ?_
                  try simp only [List.getElem_toArray, List.getElem_cons_succ, List.getElem_cons_zero, Act.put, List.setIfInBounds_toArray, List.set_cons_zero, List.set_cons_succ]
                  refine wpAnyH_take (i := 20) (v := undef) rfl (by kernel_rfl) (by kernel_rfl) (by kernel_rfl) (fun _ _ _ h => h) (Or.inr ⟨by rfl, rfl⟩) hH2 ?_
                  try simp only [List.getElem_toArray, List.getElem_cons_succ, List.getElem_cons_zero, Act.put, List.setIfInBounds_toArray, List.set_cons_zero, List.set_cons_succ]
                  refine wpAnyH_take (i := 21) (v := undef) rfl (by kernel_rfl) (by kernel_rfl) (by kernel_rfl) (fun _ _ _ h => h) (Or.inr ⟨by rfl, rfl⟩) hH2 ?_
                  try simp only [List.getElem_toArray, List.getElem_cons_succ, List.getElem_cons_zero, Act.put, List.setIfInBounds_toArray, List.set_cons_zero, List.set_cons_succ]
                  refine wpAnyH_take (i := 22) (v := undef) rfl (by kernel_rfl) (by kernel_rfl) (by kernel_rfl) (fun _ _ _ h => h) (Or.inr ⟨by rfl, rfl⟩) hH2 ?_
                  try simp only [List.getElem_toArray, List.getElem_cons_succ, List.getElem_cons_zero, Act.put, List.setIfInBounds_toArray, List.set_cons_zero, List.set_cons_succ]
                  refine wpAnyH_take (i := 23) (v := undef) rfl (by kernel_rfl) (by kernel_rfl) (by kernel_rfl) (fun _ _ _ h => h) (Or.inr ⟨by rfl, rfl⟩) hH2 ?_
                  try simp only [List.getElem_toArray, List.getElem_cons_succ, List.getElem_cons_zero, Act.put, List.setIfInBounds_toArray, List.set_cons_zero, List.set_cons_succ]
                  refine wpAnyH_take (i := 24) (v := undef) rfl (by kernel_rfl) (by kernel_rfl) (by kernel_rfl) (fun _ _ _ h => h) (Or.inr ⟨by rfl, rfl⟩) hH2 ?_
                  try simp only [List.getElem_toArray, List.getElem_cons_succ, List.getElem_cons_zero, Act.put, List.setIfInBounds_toArray, List.set_cons_zero, List.set_cons_succ]
                  refine wpAnyH_take (i := 25) (v := undef) rfl (by kernel_rfl) (by kernel_rfl) (by kernel_rfl) (fun _ _ _ h => h) (Or.inr ⟨by rfl, rfl⟩) hH2 ?_
                  try simp only [List.getElem_toArray, List.getElem_cons_succ, List.getElem_cons_zero, Act.put, List.setIfInBounds_toArray, List.set_cons_zero, List.set_cons_succ]
                  refine wpAnyH_take (i := 26) (v := undef) rfl (by kernel_rfl) (by kernel_rfl) (by kernel_rfl) (fun _ _ _ h => h) (Or.inr ⟨by rfl, rfl⟩) hH2 ?_
                  try simp only [List.getElem_toArray, List.getElem_cons_succ, List.getElem_cons_zero, Act.put, List.setIfInBounds_toArray, List.set_cons_zero, List.set_cons_succ]
                  refine wpAnyH_take (i := 27) (v := undef) rfl (by kernel_rfl) (by kernel_rfl) (by kernel_rfl) (fun _ _ _ h => h) (Or.inr ⟨by rfl, rfl⟩) hH2 ?_
                  try simp only [List.getElem_toArray, List.getElem_cons_succ, List.getElem_cons_zero, Act.put, List.setIfInBounds_toArray, List.set_cons_zero, List.set_cons_succ]
                  refine wpAnyH_take (i := 28) (v := undef) rfl (by kernel_rfl) (by kernel_rfl) (by kernel_rfl) (fun _ _ _ h => h) (Or.inr ⟨by rfl, rfl⟩) hH2 ?_
                  try simp only [List.getElem_toArray, List.getElem_cons_succ, List.getElem_cons_zero, Act.put, List.setIfInBounds_toArray, List.set_cons_zero, List.set_cons_succ]
                  refine wpAnyH_take (i := 29) (v := ?_) rfl (by kernel_rfl) (by kernel_rfl) (by kernel_rfl) (fun _ _ _ h => h) (Or.inl ⟨by rfl, ?_⟩) hH2 ?_
                  rotate_left
                  · intro W hW
                    obtain ⟨z1, z2⟩ := hW
                    first | (go_simp; done) | (go_simp; with_reducible rfl)
                  try simp only [List.getElem_toArray, List.getElem_cons_succ, List.getElem_cons_zero, Act.put, List.setIfInBounds_toArray, List.set_cons_zero, List.set_cons_succ]
                  refine wpAnyH_take (i := 30) (v := ?_) rfl (by kernel_rfl) (by kernel_rfl) (by kernel_rfl) (fun _ _ _ h => h) (Or.inl ⟨by rfl, ?_⟩) hH2 ?_
                  rotate_left
                  · intro W hW
                    obtain ⟨z1, z2⟩ := hW
                    first | (go_simp; done) | (go_simp; with_reducible rfl)
                  try simp only [List.getElem_toArray, List.getElem_cons_succ, List.getElem_cons_zero, Act.put, List.setIfInBounds_toArray, List.set_cons_zero, List.set_cons_succ]
                  refine wpAnyH_done (by kernel_rfl) ?_ _
                  have N1 := Lib.hid (HOB.out _ HBa)
                  have N2 := Lib.hid (hb.out.trans ((HBa).mono hws))
                  have N3 : Hid (false = bestB g (k + 1) i) := Lib.hid (by rw [HSU.out, ← hbst.out]; simp [hki, hkl])
                  clear HOB hb ho G1 G2 HC HSU hbst
                  go_wp2
                  go_roundw
                  case rel => exact ⟨k + 1, false, by omega, by go_num, rfl, N3, N1, N2⟩
                  case measure => first | (simp [intOf]; done) | (simp [intOf]; omega)
                · have hy : ¬ (k : Int) < i := by omega
                  cases x2 with
                  | false =>
                    go_wp2
                    refine wp_region_held_drew (S := (fun W : World => W.cell? ⟨b, off + i, none⟩ = some (.slice ai ni di) ∧ W.cell? ⟨b, off + k, none⟩ = some (.slice ak nk dk))) (by kernel_rfl) ⟨hd1, hd2⟩ (fun hHeld => ?_)
                    refine wpAnyH_take (i := 0) (v := ?_) rfl (by kernel_rfl) (by kernel_rfl) (by kernel_rfl) (fun _ _ _ h => h) (Or.inl ⟨by rfl, ?_⟩) hHeld ?_
                    rotate_left
                    · intro W hW
                      obtain ⟨z1, z2⟩ := hW
                      first | (go_simp; done) | (go_simp; with_reducible rfl)
                    try simp only [List.getElem_toArray, List.getElem_cons_succ, List.getElem_cons_zero, Act.put, List.setIfInBounds_toArray, List.set_cons_zero, List.set_cons_succ]
                    refine wpAnyH_take (i := 1) (v := ?_) rfl (by kernel_rfl) (by kernel_rfl) (by kernel_rfl) (fun _ _ _ h => h) (Or.inl ⟨by rfl, ?_⟩) hHeld ?_
                    rotate_left
                    · intro W hW
                      obtain ⟨z1, z2⟩ := hW
                      first | (go_simp; done) | (go_simp; with_reducible rfl)
                    try simp only [List.getElem_toArray, List.getElem_cons_succ, List.getElem_cons_zero, Act.put, List.setIfInBounds_toArray, List.set_cons_zero, List.set_cons_succ]
                    refine wpAnyH_take (i := 2) (v := ?_) rfl (by kernel_rfl) (by kernel_rfl) (by kernel_rfl) (fun _ _ _ h => h) (Or.inl ⟨by rfl, ?_⟩) hHeld ?_
                    rotate_left
                    · intro W hW
                      obtain ⟨z1, z2⟩ := hW
                      first | (go_simp; done) | (go_simp; with_reducible rfl)
                    try simp only [List.getElem_toArray, List.getElem_cons_succ, List.getElem_cons_zero, Act.put, List.setIfInBounds_toArray, List.set_cons_zero, List.set_cons_succ]
                    refine wpAnyH_take (i := 3) (v := ?_) rfl (by kernel_rfl) (by kernel_rfl) (by kernel_rfl) (fun _ _ _ h => h) (Or.inl ⟨by rfl, ?_⟩) hHeld ?_
                    rotate_left
                    · intro W hW
                      obtain ⟨z1, z2⟩ := hW
                      first | (go_simp; done) | (go_simp; with_reducible rfl)
                    try simp only [List.getElem_toArray, List.getElem_cons_succ, List.getElem_cons_zero, Act.put, List.setIfInBounds_toArray, List.set_cons_zero, List.set_cons_succ]
                    refine wpAnyH_take (i := 4) (v := ?_) rfl (by kernel_rfl) (by kernel_rfl) (by kernel_rfl) (fun _ _ _ h => h) (Or.inl ⟨by rfl, ?_⟩) hHeld ?_
                    rotate_left
                    · intro W hW
                      obtain ⟨z1, z2⟩ := hW
                      first | (go_simp; done) | (go_simp; with_reducible rfl)
                    try simp only [List.getElem_toArray, List.getElem_cons_succ, List.getElem_cons_zero, Act.put, List.setIfInBounds_toArray, List.set_cons_zero, List.set_cons_succ]
                    refine wpAnyH_take (i := 5) (v := ?_) rfl (by kernel_rfl) (by kernel_rfl) (by kernel_rfl) (fun _ _ _ h => h) (Or.inl ⟨by rfl, ?_⟩) hHeld ?_
                    rotate_left
                    · intro W hW
                      obtain ⟨z1, z2⟩ := hW
                      first | (go_simp; done) | (go_simp; with_reducible rfl)
                    try simp only [List.getElem_toArray, List.getElem_cons_succ, List.getElem_cons_zero, Act.put, List.setIfInBounds_toArray, List.set_cons_zero, List.set_cons_succ]
                    refine wpAnyH_take (i := 6) (v := ?_) rfl (by kernel_rfl) (by kernel_rfl) (by kernel_rfl) (fun _ _ _ h => h) (Or.inl ⟨by rfl, ?_⟩) hHeld ?_
                    rotate_left
                    · intro W hW
                      obtain ⟨z1, z2⟩ := hW
                      first | (go_simp; done) | (go_simp; with_reducible rfl)
                    try simp only [List.getElem_toArray, List.getElem_cons_succ, List.getElem_cons_zero, Act.put, List.setIfInBounds_toArray, List.set_cons_zero, List.set_cons_succ]
                    refine wpAnyH_take (i := 7) (v := ?_) rfl (by kernel_rfl) (by kernel_rfl) (by kernel_rfl) (fun _ _ _ h => h) (Or.inl ⟨by rfl, ?_⟩) hHeld ?_
                    rotate_left
                    · intro W hW
                      obtain ⟨z1, z2⟩ := hW
                      first | (go_simp; done) | (go_simp; with_reducible rfl)
                    try simp only [List.getElem_toArray, List.getElem_cons_succ, List.getElem_cons_zero, Act.put, List.setIfInBounds_toArray, List.set_cons_zero, List.set_cons_succ]
                    refine wpAnyH_take (i := 8) (v := ?_) rfl (by kernel_rfl) (by kernel_rfl) (by kernel_rfl) (fun _ _ _ h => h) (Or.inl ⟨by rfl, ?_⟩) hHeld ?_
                    rotate_left
                    · intro W hW
                      obtain ⟨z1, z2⟩ := hW
                      first | (go_simp; done) | (go_simp; with_reducible rfl)
                    try simp only [List.getElem_toArray, List.getElem_cons_succ, List.getElem_cons_zero, Act.put, List.setIfInBounds_toArray, List.set_cons_zero, List.set_cons_succ]
                    refine wpAnyH_take (i := 9) (v := ?_) rfl (by kernel_rfl) (by kernel_rfl) (by kernel_rfl) (fun _ _ _ h => h) (Or.inl ⟨by rfl, ?_⟩) hHeld ?_
                    rotate_left
                    · intro W hW
                      obtain ⟨z1, z2⟩ := hW
                      first | (go_simp; done) | (go_simp; with_reducible rfl)
                    try simp only [List.getElem_toArray, List.getElem_cons_succ, List.getElem_cons_zero, Act.put, List.setIfInBounds_toArray, List.set_cons_zero, List.set_cons_succ]
                    refine wpAnyH_take (i := 10) (v := ?_) rfl (by kernel_rfl) (by kernel_rfl) (by kernel_rfl) (fun _ _ _ h => h) (Or.inl ⟨by rfl, ?_⟩) hHeld ?_
                    rotate_left
                    · intro W hW
                      obtain ⟨z1, z2⟩ := hW
                      first | (go_simp; done) | (go_simp; with_reducible rfl)
                    try simp only [List.getElem_toArray, List.getElem_cons_succ, List.getElem_cons_zero, Act.put, List.setIfInBounds_toArray, List.set_cons_zero, List.set_cons_succ]
                    refine wpAnyH_take (i := 11) (v := ?_) rfl (by kernel_rfl) (by kernel_rfl) (by kernel_rfl) (fun _ _ _ h => h) (Or.inl ⟨by rfl, ?_⟩) hHeld ?_
                    rotate_left
                    · intro W hW
                      obtain ⟨z1, z2⟩ := hW
                      first | (go_simp; done) | (go_simp; with_reducible rfl)
                    try simp only [List.getElem_toArray, List.getElem_cons_succ, List.getElem_cons_zero, Act.put, List.setIfInBounds_toArray, List.set_cons_zero, List.set_cons_succ]
                    refine wpAnyH_ready (rs := [12]) (by kernel_rfl) (by simp) ?_
                    refine AllReadyH.cons rfl (fun K hK => ?_) AllReadyH.nil
                    go_simp
                    go_at_call 36
                    refine (G1.out _ hbd).mono ?_
                    rintro e wa ⟨rfl, hba⟩
                    have HBa : Below wr.heap.size wr wa := hbd.trans (hba)
                    go_wp2_with fail
                    refine hK.out _ _ (HC.out _ HBa) (fun hH2 => ?_)
                    clear hK K
                    try simp only [List.getElem_toArray, List.getElem_cons_succ, List.getElem_cons_zero, Act.put, List.setIfInBounds_toArray, List.set_cons_zero, List.set_cons_succ]
                    refine wpAnyH_take (i := 13) (v := ?_) rfl (by kernel_rfl) (by kernel_rfl) (by kernel_rfl) (fun _ _ _ h => h) (Or.inl ⟨by rfl, ?_⟩) hH2 ?_
                    rotate_left
                    · intro W hW
                      obtain ⟨z1, z2⟩ := hW
                      first | (go_simp; done) | (go_simp; with_reducible rfl)
                    try simp only [List.getElem_toArray, List.getElem_cons_succ, List.getElem_cons_zero, Act.put, List.setIfInBounds_toArray, List.set_cons_zero, List.set_cons_succ]
                    refine wpAnyH_take (i := 14) (v := ?_) rfl (by kernel_rfl) (by kernel_rfl) (by kernel_rfl) (fun _ _ _ h => h) (Or.inl ⟨by rfl, ?_⟩) hH2 ?_
                    rotate_left
                    · intro W hW
                      obtain ⟨z1, z2⟩ := hW
                      first | (go_simp; done) | (go_simp; with_reducible rfl)
                    try simp only [List.getElem_toArray, List.getElem_cons_succ, List.getElem_cons_zero, Act.put, List.setIfInBounds_toArray, List.set_cons_zero, List.set_cons_succ]
                    refine wpAnyH_take (i := 15) (v := ?_) rfl (by kernel_rfl) (by kernel_rfl) (by kernel_rfl) (fun _ _ _ h => h) (Or.inl ⟨by rfl, ?_⟩) hH2 ?_
                    rotate_left
                    · intro W hW
                      obtain ⟨z1, z2⟩ := hW
                      first | (go_simp; done) | (go_simp; with_reducible rfl)
                    try simp only [List.getElem_toArray, List.getElem_cons_succ, List.getElem_cons_zero, Act.put, List.setIfInBounds_toArray, List.set_cons_zero, List.set_cons_succ]
                    refine wpAnyH_take (i := 16) (v := ?_) rfl (by kernel_rfl) (by kernel_rfl) (by kernel_rfl) (fun _ _ _ h => h) (Or.inl ⟨by rfl, ?_⟩) hH2 ?_
                    rotate_left
                    · intro W hW
                      obtain ⟨z1, z2⟩ := hW
                      first | (go_simp; done) | (go_simp; with_reducible rfl)
                    try simp only [List.getElem_toArray, List.getElem_cons_succ, List.getElem_cons_zero, Act.put, List.setIfInBounds_toArray, List.set_cons_zero, List.set_cons_succ]
                    refine wpAnyH_take (i := 17) (v := ?_) rfl (by kernel_rfl) (by kernel_rfl) (by kernel_rfl) (fun _ _ _ h => h) (Or.inl ⟨by rfl, ?_⟩) hH2 ?_
                    rotate_left
                    · intro W hW
                      obtain ⟨z1, z2⟩ := hW
                      first | (go_simp; done) | (go_simp; with_reducible rfl)
                    try simp only [List.getElem_toArray, List.getElem_cons_succ, List.getElem_cons_zero, Act.put, List.setIfInBounds_toArray, List.set_cons_zero, List.set_cons_succ]
                    refine wpAnyH_take (i := 18) (v := ?_) rfl (by kernel_rfl) (by kernel_rfl) (by kernel_rfl) (fun _ _ _ h => h) (Or.inl ⟨by rfl, ?_⟩) hH2 ?_
                    rotate_left
                    · intro W hW
                      obtain ⟨z1, z2⟩ := hW
                      first | (go_simp; done) | (go_simp; with_reducible rfl)
                    try simp only [List.getElem_toArray, List.getElem_cons_succ, List.getElem_cons_zero, Act.put, List.setIfInBounds_toArray, List.set_cons_zero, List.set_cons_succ]
                    refine wpAnyH_take (i := 19) (v := ?_) rfl (by kernel_rfl) (by kernel_rfl) (by kernel_rfl) (fun _ _ _ h => h) (Or.inl ⟨by rfl, ?_⟩) hH2 ?_
                    rotate_left
                    · intro W hW
                      obtain ⟨z1, z2⟩ := hW
                      first | (go_simp; done) | (go_simp; with_reducible rfl)
                    try simp only [List.getElem_toArray, List.getElem_cons_succ, List.getElem_cons_zero, Act.put, List.setIfInBounds_toArray, List.set_cons_zero, List.set_cons_succ]
                    refine wpAnyH_take (i := 20) (v := ?_) rfl (by kernel_rfl) (by kernel_rfl) (by kernel_rfl) (fun _ _ _ h => h) (Or.inl ⟨by rfl, ?_⟩) hH2 ?_
                    rotate_left
                    · intro W hW
                      obtain ⟨z1, z2⟩ := hW
                      first | (go_simp; done) | (go_simp; with_reducible rfl)
                    try simp only [List.getElem_toArray, List.getElem_cons_succ, List.getElem_cons_zero, Act.put, List.setIfInBounds_toArray, List.set_cons_zero, List.set_cons_succ]
                    refine wpAnyH_take (i := 21) (v := ?_) rfl (by kernel_rfl) (by kernel_rfl) (by kernel_rfl) (fun _ _ _ h => h) (Or.inl ⟨by rfl, ?_⟩) hH2 ?_
                    rotate_left
                    · intro W hW
                      obtain ⟨z1, z2⟩ := hW
                      first | (go_simp; done) | (go_simp; with_reducible rfl)
                    try simp only [List.getElem_toArray, List.getElem_cons_succ, List.getElem_cons_zero, Act.put, List.setIfInBounds_toArray, List.set_cons_zero, List.set_cons_succ]
                    refine wpAnyH_take (i := 22) (v := ?_) rfl (by kernel_rfl) (by kernel_rfl) (by kernel_rfl) (fun _ _ _ h => h) (Or.inl ⟨by rfl, ?_⟩) hH2 ?_
                    rotate_left
                    · intro W hW
                      obtain ⟨z1, z2⟩ := hW
                      first | (go_simp; done) | (go_simp; with_reducible rfl)
                    try simp only [List.getElem_toArray, List.getElem_cons_succ, List.getElem_cons_zero, Act.put, List.setIfInBounds_toArray, List.set_cons_zero, List.set_cons_succ]
                    refine wpAnyH_take (i := 23) (v := ?_) rfl (by kernel_rfl) (by kernel_rfl) (by kernel_rfl) (fun _ _ _ h => h) (Or.inl ⟨by rfl, ?_⟩) hH2 ?_
                    rotate_left
                    · intro W hW
                      obtain ⟨z1, z2⟩ := hW
                      first | (go_simp; done) | (go_simp; with_reducible rfl)
                    try simp only [List.getElem_toArray, List.getElem_cons_succ, List.getElem_cons_zero, Act.put, List.setIfInBounds_toArray, List.set_cons_zero, List.set_cons_succ]
                    refine wpAnyH_take (i := 24) (v := ?_) rfl (by kernel_rfl) (by kernel_rfl) (by kernel_rfl) (fun _ _ _ h => h) (Or.inl ⟨by rfl, ?_⟩) hH2 ?_
                    rotate_left
                    · intro W hW
                      obtain ⟨z1, z2⟩ := hW
                      first | (go_simp; done) | (go_simp; with_reducible rfl)
                    try simp only [List.getElem_toArray, List.getElem_cons_succ, List.getElem_cons_zero, Act.put, List.setIfInBounds_toArray, List.set_cons_zero, List.set_cons_succ]
                    refine wpAnyH_take (i := 25) (v := ?_) rfl (by kernel_rfl) (by kernel_rfl) (by kernel_rfl) (fun _ _ _ h => h) (Or.inl ⟨by rfl, ?_⟩) hH2 ?_
                    rotate_left
                    · intro W hW
                      obtain ⟨z1, z2⟩ := hW
                      first | (go_simp; done) | (go_simp; with_reducible rfl)
                    try simp only [List.getElem_toArray, List.getElem_cons_succ, List.getElem_cons_zero, Act.put, List.setIfInBounds_toArray, List.set_cons_zero, List.set_cons_succ]
                    refine wpAnyH_take (i := 26) (v := ?_) rfl (by kernel_rfl) (by kernel_rfl) (by kernel_rfl) (fun _ _ _ h => h) (Or.inl ⟨by rfl, ?_⟩) hH2 ?_
                    rotate_left
                    · intro W hW
                      obtain ⟨z1, z2⟩ := hW
                      first | (go_simp; done) | (go_simp; with_reducible rfl)
                    try simp only [List.getElem_toArray, List.getElem_cons_succ, List.getElem_cons_zero, Act.put, List.setIfInBounds_toArray, List.set_cons_zero, List.set_cons_succ]
                    refine wpAnyH_ready (rs := [27]) (by kernel_rfl) (by simp) ?_
                    refine AllReadyH.cons rfl (fun K hK => ?_) AllReadyH.nil
                    go_simp
                    go_at_call 36
                    refine (G2.out wa HBa).mono ?_
                    rintro e wc ⟨rfl, hbc⟩
                    have HBc : Below wr.heap.size wr wc := HBa.trans (hbc.mono HBa.size)
                    go_wp2_with fail
                    refine hK.out _ _ (HC.out _ HBc) (fun hH3 => ?_)
                    clear hK K
                    try simp only [List.getElem_toArray, List.getElem_cons_succ, List.getElem_cons_zero, Act.put, List.setIfInBounds_toArray, List.set_cons_zero, List.set_cons_succ]
                    refine wpAnyH_take (i := 28) (v := ?_) rfl (by kernel_rfl) (by kernel_rfl) (by kernel_rfl) (fun _ _ _ h => h) (Or.inl ⟨by rfl, ?_⟩) hH3 ?_
                    rotate_left
                    · intro W hW
                      obtain ⟨z1, z2⟩ := hW
                      first | (go_simp; done) | (go_simp; with_reducible rfl)
                    try simp only [List.getElem_toArray, List.getElem_cons_succ, List.getElem_cons_zero, Act.put, List.setIfInBounds_toArray, List.set_cons_zero, List.set_cons_succ]
                    refine wpAnyH_take (i := 29) (v := ?_) rfl (by kernel_rfl) (by kernel_rfl) (by kernel_rfl) (fun _ _ _ h => h) (Or.inl ⟨by rfl, ?_⟩) hH3 ?_
                    rotate_left
                    · intro W hW
                      obtain ⟨z1, z2⟩ := hW
                      first | (go_simp; done) | (go_simp; with_reducible rfl)
                    try simp only [List.getElem_toArray, List.getElem_cons_succ, List.getElem_cons_zero, Act.put, List.setIfInBounds_toArray, List.set_cons_zero, List.set_cons_succ]
                    refine wpAnyH_take (i := 30) (v := ?_) rfl (by kernel_rfl) (by kernel_rfl) (by kernel_rfl) (fun _ _ _ h => h) (Or.inl ⟨by rfl, ?_⟩) hH3 ?_
                    rotate_left
                    · intro W hW
                      obtain ⟨z1, z2⟩ := hW
                      first | (go_simp; done) | (go_simp; with_reducible rfl)
                    try simp only [List.getElem_toArray, List.getElem_cons_succ, List.getElem_cons_zero, Act.put, List.setIfInBounds_toArray, List.set_cons_zero, List.set_cons_succ]
                    refine wpAnyH_done (by kernel_rfl) ?_ _
                    have N1 := Lib.hid (HOB.out _ HBc)
                    have N2 := Lib.hid (hb.out.trans ((HBc).mono hws))
                    have N3 : Hid (false = bestB g (k + 1) i) := Lib.hid (by rw [HSU.out, ← hbst.out]; simp [hki, hkl])
                    clear HOB hb ho G1 G2 HC HSU hbst
                    go_wp2
                    go_roundw
                    case rel => exact ⟨k + 1, false, by omega, by go_num, rfl, N3, N1, N2⟩
                    case measure => first | (simp [intOf]; done) | (simp [intOf]; omega)
                  | true =>
                    go_wp2
                    refine wp_region_held_drew (S := (fun W : World => W.cell? ⟨b, off + i, none⟩ = some (.slice ai ni di) ∧ W.cell? ⟨b, off + k, none⟩ = some (.slice ak nk dk))) (by kernel_rfl) ⟨hd1, hd2⟩ (fun hHeld => ?_)
                    refine wpAnyH_take (i := 0) (v := ?_) rfl (by kernel_rfl) (by kernel_rfl) (by kernel_rfl) (fun _ _ _ h => h) (Or.inl ⟨by rfl, ?_⟩) hHeld ?_
                    rotate_left
                    · intro W hW
                      obtain ⟨z1, z2⟩ := hW
                      first | (go_simp; done) | (go_simp; with_reducible rfl)
                    try simp only [List.getElem_toArray, List.getElem_cons_succ, List.getElem_cons_zero, Act.put, List.setIfInBounds_toArray, List.set_cons_zero, List.set_cons_succ]
                    refine wpAnyH_take (i := 1) (v := ?_) rfl (by kernel_rfl) (by kernel_rfl) (by kernel_rfl) (fun _ _ _ h => h) (Or.inl ⟨by rfl, ?_⟩) hHeld ?_
                    rotate_left
                    · intro W hW
                      obtain ⟨z1, z2⟩ := hW
                      first | (go_simp; done) | (go_simp; with_reducible rfl)
                    try simp only [List.getElem_toArray, List.getElem_cons_succ, List.getElem_cons_zero, Act.put, List.setIfInBounds_toArray, List.set_cons_zero, List.set_cons_succ]
                    refine wpAnyH_take (i := 2) (v := ?_) rfl (by kernel_rfl) (by kernel_rfl) (by kernel_rfl) (fun _ _ _ h => h) (Or.inl ⟨by rfl, ?_⟩) hHeld ?_
                    rotate_left
                    · intro W hW
                      obtain ⟨z1, z2⟩ := hW
                      first | (go_simp; done) | (go_simp; with_reducible rfl)
                    try simp only [List.getElem_toArray, List.getElem_cons_succ, List.getElem_cons_zero, Act.put, List.setIfInBounds_toArray, List.set_cons_zero, List.set_cons_succ]
                    refine wpAnyH_take (i := 3) (v := ?_) rfl (by kernel_rfl) (by kernel_rfl) (by kernel_rfl) (fun _ _ _ h => h) (Or.inl ⟨by rfl, ?_⟩) hHeld ?_
                    rotate_left
                    · intro W hW
                      obtain ⟨z1, z2⟩ := hW
                      first | (go_simp; done) | (go_simp; with_reducible rfl)
                    try simp only [List.getElem_toArray, List.getElem_cons_succ, List.getElem_cons_zero, Act.put, List.setIfInBounds_toArray, List.set_cons_zero, List.set_cons_succ]
                    refine wpAnyH_take (i := 4) (v := ?_) rfl (by kernel_rfl) (by kernel_rfl) (by kernel_rfl) (fun _ _ _ h => h) (Or.inl ⟨by rfl, ?_⟩) hHeld ?_
                    rotate_left
                    · intro W hW
                      obtain ⟨z1, z2⟩ := hW
                      first | (go_simp; done) | (go_simp; with_reducible rfl)
                    try simp only [List.getElem_toArray, List.getElem_cons_succ, List.getElem_cons_zero, Act.put, List.setIfInBounds_toArray, List.set_cons_zero, List.set_cons_succ]
                    refine wpAnyH_take (i := 5) (v := ?_) rfl (by kernel_rfl) (by kernel_rfl) (by kernel_rfl) (fun _ _ _ h => h) (Or.inl ⟨by rfl, ?_⟩) hHeld ?_
                    rotate_left
                    · intro W hW
                      obtain ⟨z1, z2⟩ := hW
                      first | (go_simp; done) | (go_simp; with_reducible rfl)
                    try simp only [List.getElem_toArray, List.getElem_cons_succ, List.getElem_cons_zero, Act.put, List.setIfInBounds_toArray, List.set_cons_zero, List.set_cons_succ]
                    refine wpAnyH_take (i := 6) (v := ?_) rfl (by kernel_rfl) (by kernel_rfl) (by kernel_rfl) (fun _ _ _ h => h) (Or.inl ⟨by rfl, ?_⟩) hHeld ?_
                    rotate_left
                    · intro W hW
                      obtain ⟨z1, z2⟩ := hW
                      first | (go_simp; done) | (go_simp; with_reducible rfl)
                    try simp only [List.getElem_toArray, List.getElem_cons_succ, List.getElem_cons_zero, Act.put, List.setIfInBounds_toArray, List.set_cons_zero, List.set_cons_succ]
                    refine wpAnyH_take (i := 7) (v := ?_) rfl (by kernel_rfl) (by kernel_rfl) (by kernel_rfl) (fun _ _ _ h => h) (Or.inl ⟨by rfl, ?_⟩) hHeld ?_
                    rotate_left
                    · intro W hW
                      obtain ⟨z1, z2⟩ := hW
                      first | (go_simp; done) | (go_simp; with_reducible rfl)
                    try simp only [List.getElem_toArray, List.getElem_cons_succ, List.getElem_cons_zero, Act.put, List.setIfInBounds_toArray, List.set_cons_zero, List.set_cons_succ]
                    refine wpAnyH_take (i := 8) (v := ?_) rfl (by kernel_rfl) (by kernel_rfl) (by kernel_rfl) (fun _ _ _ h => h) (Or.inl ⟨by rfl, ?_⟩) hHeld ?_
                    rotate_left
                    · intro W hW
                      obtain ⟨z1, z2⟩ := hW
                      first | (go_simp; done) | (go_simp; with_reducible rfl)
                    try simp only [List.getElem_toArray, List.getElem_cons_succ, List.getElem_cons_zero, Act.put, List.setIfInBounds_toArray, List.set_cons_zero, List.set_cons_succ]
                    refine wpAnyH_take (i := 9) (v := ?_) rfl (by kernel_rfl) (by kernel_rfl) (by kernel_rfl) (fun _ _ _ h => h) (Or.inl ⟨by rfl, ?_⟩) hHeld ?_
                    rotate_left
                    · intro W hW
                      obtain ⟨z1, z2⟩ := hW
                      first | (go_simp; done) | (go_simp; with_reducible rfl)
                    try simp only [List.getElem_toArray, List.getElem_cons_succ, List.getElem_cons_zero, Act.put, List.setIfInBounds_toArray, List.set_cons_zero, List.set_cons_succ]
                    refine wpAnyH_take (i := 10) (v := ?_) rfl (by kernel_rfl) (by kernel_rfl) (by kernel_rfl) (fun _ _ _ h => h) (Or.inl ⟨by rfl, ?_⟩) hHeld ?_
                    rotate_left
                    · intro W hW
                      obtain ⟨z1, z2⟩ := hW
                      first | (go_simp; done) | (go_simp; with_reducible rfl)
                    try simp only [List.getElem_toArray, List.getElem_cons_succ, List.getElem_cons_zero, Act.put, List.setIfInBounds_toArray, List.set_cons_zero, List.set_cons_succ]
                    refine wpAnyH_take (i := 11) (v := ?_) rfl (by kernel_rfl) (by kernel_rfl) (by kernel_rfl) (fun _ _ _ h => h) (Or.inl ⟨by rfl, ?_⟩) hHeld ?_
                    rotate_left
                    · intro W hW
                      obtain ⟨z1, z2⟩ := hW
                      first | (go_simp; done) | (go_simp; with_reducible rfl)
                    try simp only [List.getElem_toArray, List.getElem_cons_succ, List.getElem_cons_zero, Act.put, List.setIfInBounds_toArray, List.set_cons_zero, List.set_cons_succ]
                    refine wpAnyH_ready (rs := [12]) (by kernel_rfl) (by simp) ?_
                    refine AllReadyH.cons rfl (fun K hK => ?_) AllReadyH.nil
                    go_simp
                    go_at_call 36
                    refine (G1.out _ hbd).mono ?_
                    rintro e wa ⟨rfl, hba⟩
                    have HBa : Below wr.heap.size wr wa := hbd.trans (hba)
                    go_wp2_with fail
                    refine hK.out _ _ (HC.out _ HBa) (fun hH2 => ?_)
                    clear hK K
                    try simp only [List.getElem_toArray, List.getElem_cons_succ, List.getElem_cons_zero, Act.put, List.setIfInBounds_toArray, List.set_cons_zero, List.set_cons_succ]
                    refine wpAnyH_take (i := 13) (v := ?_) rfl (by kernel_rfl) (by kernel_rfl) (by kernel_rfl) (fun _ _ _ h => h) (Or.inl ⟨by rfl, ?_⟩) hH2 ?_
                    rotate_left
                    · intro W hW
                      obtain ⟨z1, z2⟩ := hW
                      first | (go_simp; done) | (go_simp; with_reducible rfl)
                    try simp only [List.getElem_toArray, List.getElem_cons_succ, List.getElem_cons_zero, Act.put, List.setIfInBounds_toArray, List.set_cons_zero, List.set_cons_succ]
                    refine wpAnyH_take (i := 14) (v := ?_) rfl (by kernel_rfl) (by kernel_rfl) (by kernel_rfl) (fun _ _ _ h => h) (Or.inl ⟨by rfl, ?_⟩) hH2 ?_
                    rotate_left
                    · intro W hW
                      obtain ⟨z1, z2⟩ := hW
                      first | (go_simp; done) | (go_simp; with_reducible rfl)
                    try simp only [List.getElem_toArray, List.getElem_cons_succ, List.getElem_cons_zero, Act.put, List.setIfInBounds_toArray, List.set_cons_zero, List.set_cons_succ]
                    refine wpAnyH_take (i := 15) (v := ?_) rfl (by kernel_rfl) (by kernel_rfl) (by kernel_rfl) (fun _ _ _ h => h) (Or.inl ⟨by rfl, ?_⟩) hH2 ?_
                    rotate_left
                    · intro W hW
                      obtain ⟨z1, z2⟩ := hW
                      first | (go_simp; done) | (go_simp; with_reducible rfl)
                    try simp only [List.getElem_toArray, List.getElem_cons_succ, List.getElem_cons_zero, Act.put, List.setIfInBounds_toArray, List.set_cons_zero, List.set_cons_succ]
                    refine wpAnyH_take (i := 16) (v := ?_) rfl (by kernel_rfl) (by kernel_rfl) (by kernel_rfl) (fun _ _ _ h => h) (Or.inl ⟨by rfl, ?_⟩) hH2 ?_
                    rotate_left
                    · intro W hW
                      obtain ⟨z1, z2⟩ := hW
                      first | (go_simp; done) | (go_simp; with_reducible rfl)
                    try simp only [List.getElem_toArray, List.getElem_cons_succ, List.getElem_cons_zero, Act.put, List.setIfInBounds_toArray, List.set_cons_zero, List.set_cons_succ]
                    refine wpAnyH_take (i := 17) (v := ?_) rfl (by kernel_rfl) (by kernel_rfl) (by kernel_rfl) (fun _ _ _ h => h) (Or.inl ⟨by rfl, ?_⟩) hH2 ?_
                    rotate_left
                    · intro W hW
                      obtain ⟨z1, z2⟩ := hW
                      first | (go_simp; done) | (go_simp; with_reducible rfl)
                    try simp only [List.getElem_toArray, List.getElem_cons_succ, List.getElem_cons_zero, Act.put, List.setIfInBounds_toArray, List.set_cons_zero, List.set_cons_succ]
                    refine wpAnyH_take (i := 18) (v := ?_) rfl (by kernel_rfl) (by kernel_rfl) (by kernel_rfl) (fun _ _ _ h => h) (Or.inl ⟨by rfl, ?_⟩) hH2 ?_
                    rotate_left
                    · intro W hW
                      obtain ⟨z1, z2⟩ := hW
                      first | (go_simp; done) | (go_simp; with_reducible rfl)
                    try simp only [List.getElem_toArray, List.getElem_cons_succ, List.getElem_cons_zero, Act.put, List.setIfInBounds_toArray, List.set_cons_zero, List.set_cons_succ]
                    refine wpAnyH_take (i := 19) (v := ?_) rfl (by kernel_rfl) (by kernel_rfl) (by kernel_rfl) (fun _ _ _ h => h) (Or.inl ⟨by rfl, ?_⟩) hH2 ?_
                    rotate_left
                    · intro W hW
                      obtain ⟨z1, z2⟩ := hW
                      first | (go_simp; done) | (go_simp; with_reducible rfl)
                    try simp only [List.getElem_toArray, List.getElem_cons_succ, List.getElem_cons_zero, Act.put, List.setIfInBounds_toArray, List.set_cons_zero, List.set_cons_succ]
                    refine wpAnyH_take (i := 20) (v := ?_) rfl (by kernel_rfl) (by kernel_rfl) (by kernel_rfl) (fun _ _ _ h => h) (Or.inl ⟨by rfl, ?_⟩) hH2 ?_
                    rotate_left
                    · intro W hW
                      obtain ⟨z1, z2⟩ := hW
                      first | (go_simp; done) | (go_simp; with_reducible rfl)
                    try simp only [List.getElem_toArray, List.getElem_cons_succ, List.getElem_cons_zero, Act.put, List.setIfInBounds_toArray, List.set_cons_zero, List.set_cons_succ]
                    refine wpAnyH_take (i := 21) (v := ?_) rfl (by kernel_rfl) (by kernel_rfl) (by kernel_rfl) (fun _ _ _ h => h) (Or.inl ⟨by rfl, ?_⟩) hH2 ?_
                    rotate_left
                    · intro W hW
                      obtain ⟨z1, z2⟩ := hW
                      first | (go_simp; done) | (go_simp; with_reducible rfl)
                    try simp only [List.getElem_toArray, List.getElem_cons_succ, List.getElem_cons_zero, Act.put, List.setIfInBounds_toArray, List.set_cons_zero, List.set_cons_succ]
                    refine wpAnyH_take (i := 22) (v := ?_) rfl (by kernel_rfl) (by kernel_rfl) (by kernel_rfl) (fun _ _ _ h => h) (Or.inl ⟨by rfl, ?_⟩) hH2 ?_
                    rotate_left
                    · intro W hW
                      obtain ⟨z1, z2⟩ := hW
                      first | (go_simp; done) | (go_simp; with_reducible rfl)
                    try simp only [List.getElem_toArray, List.getElem_cons_succ, List.getElem_cons_zero, Act.put, List.setIfInBounds_toArray, List.set_cons_zero, List.set_cons_succ]
                    refine wpAnyH_take (i := 23) (v := ?_) rfl (by kernel_rfl) (by kernel_rfl) (by kernel_rfl) (fun _ _ _ h => h) (Or.inl ⟨by rfl, ?_⟩) hH2 ?_
                    rotate_left
                    · intro W hW
                      obtain ⟨z1, z2⟩ := hW
                      first | (go_simp; done) | (go_simp; with_reducible rfl)
                    try simp only [List.getElem_toArray, List.getElem_cons_succ, List.getElem_cons_zero, Act.put, List.setIfInBounds_toArray, List.set_cons_zero, List.set_cons_succ]
                    refine wpAnyH_take (i := 24) (v := ?_) rfl (by kernel_rfl) (by kernel_rfl) (by kernel_rfl) (fun _ _ _ h => h) (Or.inl ⟨by rfl, ?_⟩) hH2 ?_
                    rotate_left
                    · intro W hW
                      obtain ⟨z1, z2⟩ := hW
                      first | (go_simp; done) | (go_simp; with_reducible rfl)
                    try simp only [List.getElem_toArray, List.getElem_cons_succ, List.getElem_cons_zero, Act.put, List.setIfInBounds_toArray, List.set_cons_zero, List.set_cons_succ]
                    refine wpAnyH_take (i := 25) (v := ?_) rfl (by kernel_rfl) (by kernel_rfl) (by kernel_rfl) (fun _ _ _ h => h) (Or.inl ⟨by rfl, ?_⟩) hH2 ?_
                    rotate_left
                    · intro W hW
                      obtain ⟨z1, z2⟩ := hW
                      first | (go_simp; done) | (go_simp; with_reducible rfl)
                    try simp only [List.getElem_toArray, List.getElem_cons_succ, List.getElem_cons_zero, Act.put, List.setIfInBounds_toArray, List.set_cons_zero, List.set_cons_succ]
                    refine wpAnyH_take (i := 26) (v := ?_) rfl (by kernel_rfl) (by kernel_rfl) (by kernel_rfl) (fun _ _ _ h => h) (Or.inl ⟨by rfl, ?_⟩) hH2 ?_
                    rotate_left
                    · intro W hW
                      obtain ⟨z1, z2⟩ := hW
                      first | (go_simp; done) | (go_simp; with_reducible rfl)
                    try simp only [List.getElem_toArray, List.getElem_cons_succ, List.getElem_cons_zero, Act.put, List.setIfInBounds_toArray, List.set_cons_zero, List.set_cons_succ]
                    refine wpAnyH_ready (rs := [27]) (by kernel_rfl) (by simp) ?_
                    refine AllReadyH.cons rfl (fun K hK => ?_) AllReadyH.nil
                    go_simp
                    go_at_call 36
                    refine (G2.out wa HBa).mono ?_
                    rintro e wc ⟨rfl, hbc⟩
                    have HBc : Below wr.heap.size wr wc := HBa.trans (hbc.mono HBa.size)
                    go_wp2_with fail
                    refine hK.out _ _ (HC.out _ HBc) (fun hH3 => ?_)
                    clear hK K
                    try simp only [List.getElem_toArray, List.getElem_cons_succ, List.getElem_cons_zero, Act.put, List.setIfInBounds_toArray, List.set_cons_zero, List.set_cons_succ]
                    refine wpAnyH_take (i := 28) (v := ?_) rfl (by kernel_rfl) (by kernel_rfl) (by kernel_rfl) (fun _ _ _ h => h) (Or.inl ⟨by rfl, ?_⟩) hH3 ?_
                    rotate_left
                    · intro W hW
                      obtain ⟨z1, z2⟩ := hW
                      first | (go_simp; done) | (go_simp; with_reducible rfl)
                    try simp only [List.getElem_toArray, List.getElem_cons_succ, List.getElem_cons_zero, Act.put, List.setIfInBounds_toArray, List.set_cons_zero, List.set_cons_succ]
                    refine wpAnyH_take (i := 29) (v := ?_) rfl (by kernel_rfl) (by kernel_rfl) (by kernel_rfl) (fun _ _ _ h => h) (Or.inl ⟨by rfl, ?_⟩) hH3 ?_
                    rotate_left
                    · intro W hW
                      obtain ⟨z1, z2⟩ := hW
                      first | (go_simp; done) | (go_simp; with_reducible rfl)
                    try simp only [List.getElem_toArray, List.getElem_cons_succ, List.getElem_cons_zero, Act.put, List.setIfInBounds_toArray, List.set_cons_zero, List.set_cons_succ]
                    refine wpAnyH_take (i := 30) (v := ?_) rfl (by kernel_rfl) (by kernel_rfl) (by kernel_rfl) (fun _ _ _ h => h) (Or.inl ⟨by rfl, ?_⟩) hH3 ?_
                    rotate_left
                    · intro W hW
                      obtain ⟨z1, z2⟩ := hW
                      first | (go_simp; done) | (go_simp; with_reducible rfl)
                    try simp only [List.getElem_toArray, List.getElem_cons_succ, List.getElem_cons_zero, Act.put, List.setIfInBounds_toArray, List.set_cons_zero, List.set_cons_succ]
                    refine wpAnyH_done (by kernel_rfl) ?_ _
                    have N1 := Lib.hid (HOB.out _ HBc)
                    have N2 := Lib.hid (hb.out.trans ((HBc).mono hws))
                    have N3 : Hid (bst = bestB g (k + 1) i) := Lib.hid (by rw [HSU.out, ← hbst.out]; simp [hki, hkl])
                    clear HOB hb ho G1 G2 HC HSU hbst
                    go_wp2
                    go_roundw
                    case rel => exact ⟨k + 1, bst, by omega, by go_num, rfl, N3, N1, N2⟩
                    case measure => first | (simp [intOf]; done) | (simp [intOf]; omega)
          · have hke : k = n := by omega
            subst hke
            have HTS := Lib.hid (toldL_succ g k i)
            rw [← hbst.out] at HTS
            have hml := toldL_len g k i
            rw [← hm.out] at hml
            have hws := hb.out.size
            clear hbst
            cases bst with
            | false =>
              have N3 : Hid (m = (toldL g k (i + 1)).length) := Lib.hid (by rw [HTS.out]; simpa using hm.out)
              have N4 : Hid (OwnI wr w.heap.size (.slice a m c) (upL (toldL g k (i + 1)))) := Lib.hid (by rw [HTS.out]; simpa using ho.out)
              clear ho HTS hm
              go_wp2
              go_roundw
              case rel => exact ⟨i + 1, a, m, c, by omega, by go_num, rfl, N3, N4, hb⟩
              case measure => first | (simp [intOf]; done) | (simp [intOf]; omega)
            | true =>
              have HOA := Lib.hid (World.ownsRow.alloc ho.out (.cells #[.int .i64 (i : Int)] 3))
              have hlen : (upL (toldL g k i)).length = m := by rw [hm.out]; simp [upL]
              rw [hlen] at HOA
              have HUP : Hid ((upL (toldL g k i)).map (Value.int .i64) ++ [.int .i64 (i : Int)] = (upL (toldL g k (i + 1))).map (Value.int .i64)) := Lib.hid (by rw [HTS.out]; simp [upL])
              have HUL : Hid (m + 1 = (toldL g k (i + 1)).length) := Lib.hid (by rw [HTS.out, hm.out]; simp)
              clear HTS hlen hm
              go_wp2_with (at_builtin; refine wpList_append_own_at _ rfl _ _ 40 rfl w.heap.size 3 i0 (.int .i64 0) 1 8 Try.underlying40 hi0 hz0 hz1 hz2 rfl (by decide) _ _ _ rfl HOA.out ⟨wr.heap.size, 0, none⟩ 1 1 [.int .i64 (i : Int)] rfl rfl (cell_one_new _ _ _) (by simp [Value.oneCell']) (by unfold maxLen; omega) (by omega) (by simp; omega) ?_; intro v9 w9 hown9 hgrow9 hnil9 hat9)
              obtain ⟨g9, c9, rfl, _, _⟩ := hown9.form (by omega)
              have N4 : Hid (OwnI w9 w.heap.size (.slice (some ⟨g9, 0, none⟩) (m + 1) c9) (upL (toldL g k (i + 1)))) := Lib.hid (by
                unfold OwnI
                rw [← HUP.out, show (upL (toldL g k (i + 1))).length = m + 1 from by rw [HUL.out]; simp [upL]]
                exact hown9)
              have N5 := Lib.hid (hb.out.trans ((((Below.refl wr.heap.size wr).alloc (Nat.le_refl _) _).mono hws).grown hgrow9 (by simp; omega) (fun q hq => (World.ownsRow.lt ho.out q hq).1)))
              clear hown9 hgrow9 hnil9 hat9 HOA ho hb
              go_wp2
              go_roundw
              case rel => exact ⟨i + 1, _, m + 1, c9, by omega, by go_num, rfl, HUL, N4, N5⟩
              case measure => first | (simp [intOf]; done) | (simp [intOf]; omega)
      · have hie : i = n := by omega
        subst hie
        have hLL : toldL g i i = L := HLV.out
        rw [hLL] at ho hm
        have HM := Lib.hid hm.out
        clear hm
        go_wp2
        rw [HM.out] at ho ⊢
        exact bodyPost_ret (v := .tuple #[.slice a L.length c, .bool true]) (by simp [results, Try.results22, go_sem]) rfl ⟨a, c, rfl, ho.out, hb.out⟩
end

end Go.Proofs.Ytiacgcpcgabdoaa
