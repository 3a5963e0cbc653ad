/- Games stacked one on another: mathematics. -/
import Derived.Test.YtgbpnegdoilfnaaGreatFmGood
import Derived.Test.YtgbpnegdoilfnaaGreatSmM
import Derived.Test.YtgbpnegdoilfnaaGreatFmFs
import Derived.Test.YtgbpnegdoilfnaaGreatFmPartL
import Derived.Test.YtgbpnegdoilfnaaGreatFmFits
import Derived.Test.YtgbpnegdoilfnaaGreatInOf
import Derived.Test.YtgbpnegdoilfnaaGreatFmLaw
import Derived.Test.YtgbpnegdoilfnaaGreatFmGoodI
import Derived.Test.YtgbpnegdoilfnaaGreatInForm
import Derived.Test.YtgbpnegdoilfnaaGreatInDays
import Derived.Test.YtgbpnegdoilfnaaGreatBkAt
import Derived.Laws.EntriesVeiled
import Derived.Test.YtgbpnegdoilfnaaGreatFmToOwn
import Derived.Deep.RegionHeld3
import Derived.Deep.CutBlock
namespace Go.Proofs.YtgbpnegdoilfnaaGreat
section
set_option linter.unusedVariables false
set_option linter.unusedSimpArgs false

def shD (n : Nat) (f : List Nd) : List Nd := f.map fun nd => (nd.1.map (· + n), nd.2.map (· + n))
theorem shD_len (n : Nat) (f : List Nd) : (shD n f).length = f.length := by simp [shD]
theorem shD_snoc (n : Nat) (f : List Nd) (nd : Nd) : shD n (f ++ [nd]) = shD n f ++ [(nd.1.map (· + n), nd.2.map (· + n))] := by simp [shD]
theorem shD_at {n k : Nat} {f : List Nd} {nd : Nd} (h : f[k]? = some nd) : (shD n f)[k]? = some (nd.1.map (· + n), nd.2.map (· + n)) := by unfold shD; rw [List.getElem?_map, h]; rfl
theorem shD_get {n k : Nat} {f : List Nd} {nd : Nd} (h : (shD n f)[k]? = some nd) : ∃ x, f[k]? = some x ∧ nd = (x.1.map (· + n), x.2.map (· + n)) := by
  unfold shD at h
  rw [List.getElem?_map] at h
  cases hx : f[k]? with
  | none => rw [hx] at h; cases h
  | some x => rw [hx] at h; simp only [Option.map_some, Option.some.injEq] at h; exact ⟨x, rfl, h.symm⟩

theorem at_lenP (B f : List Nd) : (addF B f).2.length = f.length := by
  induction f using snocInd with
  | nil => rfl
  | snoc f nd ih => rw [addF_snoc]; simp [ih]

theorem getD_right (A C : List Nat) (x : Nat) : (A ++ C).getD (x + A.length) 0 = C.getD x 0 := by
  rw [List.getD_eq_getElem?_getD, List.getD_eq_getElem?_getD, List.getElem?_append_right (by omega), Nat.add_sub_cancel]
theorem getD_left (A C : List Nat) (x : Nat) (h : x < A.length) : (A ++ C).getD x 0 = A.getD x 0 := by
  rw [List.getD_eq_getElem?_getD, List.getD_eq_getElem?_getD, List.getElem?_append_left h]

theorem addF_sh (P f : List Nd) : addF [] (P ++ shD P.length f) = ((addF (addF [] P).1 f).1, (addF [] P).2 ++ (addF (addF [] P).1 f).2) := by
  induction f using snocInd with
  | nil => simp [shD, addF]
  | snoc f nd ih =>
    rw [shD_snoc, ← List.append_assoc, addF_snoc, ih, addF_snoc]
    have hm : movd (fun x => ((addF [] P).2 ++ (addF (addF [] P).1 f).2).getD x 0) (nd.1.map (· + P.length), nd.2.map (· + P.length)) = movd (fun x => (addF (addF [] P).1 f).2.getD x 0) nd := by
      unfold movd
      simp only [List.map_map, Function.comp_def]
      have hl := at_lenP [] P
      have e : ∀ x, ((addF [] P).2 ++ (addF (addF [] P).1 f).2).getD (x + P.length) 0 = (addF (addF [] P).1 f).2.getD x 0 := fun x => by
        have := getD_right (addF [] P).2 (addF (addF [] P).1 f).2 x
        rwa [hl] at this
      simp only [e]
    dsimp only
    rw [hm, List.append_assoc]

/-- a game put on the pile, its top told -/
def stk (s : List Nd × List Nat) (f : List Nd) : List Nd × List Nat := (s.1 ++ shD s.1.length f, s.2 ++ [s.1.length + f.length - 1])
def stkL (P : List Nd) (fs : List (List Nd)) : List Nd × List Nat := fs.foldl stk (P, [])
theorem stkL_nil (P : List Nd) : stkL P [] = (P, []) := rfl
theorem stkL_snoc (P : List Nd) (fs : List (List Nd)) (f : List Nd) : stkL P (fs ++ [f]) = stk (stkL P fs) f := by simp [stkL, List.foldl_append]
theorem stkL_tops (P : List Nd) (fs : List (List Nd)) : (stkL P fs).2.length = fs.length := by
  induction fs using snocInd with
  | nil => rfl
  | snoc fs f ih => rw [stkL_snoc]; simp [stk, ih]
theorem stkL_pre (P : List Nd) (fs : List (List Nd)) : P <+: (stkL P fs).1 := by
  induction fs using snocInd with
  | nil => exact List.prefix_refl _
  | snoc fs f ih => rw [stkL_snoc]; exact ih.trans (List.prefix_append _ _)
theorem stkL_len (P : List Nd) (fs : List (List Nd)) (h : ∀ f ∈ fs, f.length ≤ 125) : (stkL P fs).1.length ≤ P.length + 125 * fs.length := by
  induction fs using snocInd with
  | nil => simp [stkL]
  | snoc fs f ih =>
    have h1 := ih (fun g hg => h g (by simp [hg]))
    have h2 := h f (by simp)
    rw [stkL_snoc]
    simp only [stk, List.length_append, shD_len, List.length_singleton]
    omega

/-- what is asked of the games -/
structure Fit (f : List Nd) : Prop where
  pos : 0 < f.length
  most : f.length ≤ 125
  under : Under f
  used : Used f
  small : ∀ nd ∈ f, nd.1.length ≤ 24 ∧ nd.2.length ≤ 24

theorem stkL_lt (P : List Nd) (fs : List (List Nd)) (h : ∀ f ∈ fs, 0 < f.length) : ∀ t ∈ (stkL P fs).2, t < (stkL P fs).1.length := by
  induction fs using snocInd with
  | nil => intro t ht; simp [stkL] at ht
  | snoc fs f ih =>
    have h1 := ih (fun g hg => h g (by simp [hg]))
    have h2 := h f (by simp)
    rw [stkL_snoc]
    intro t ht
    simp only [stk, List.length_append, shD_len, List.mem_append, List.mem_singleton] at ht ⊢
    rcases ht with ht | ht
    · have := h1 t ht; omega
    · omega

theorem under_sh {P f : List Nd} (hP : Under P) (hf : Under f) : Under (P ++ shD P.length f) := by
  intro k nd hk x hx
  rcases Nat.lt_or_ge k P.length with hlt | hge
  · rw [List.getElem?_append_left hlt] at hk
    exact hP k nd hk x hx
  · rw [List.getElem?_append_right hge] at hk
    obtain ⟨y, hy, rfl⟩ := shD_get hk
    have := hf _ y hy
    rcases hx with hx | hx
    · obtain ⟨z, hz, rfl⟩ := List.mem_map.1 hx
      have := this z (Or.inl hz); omega
    · obtain ⟨z, hz, rfl⟩ := List.mem_map.1 hx
      have := this z (Or.inr hz); omega

theorem stkL_under (P : List Nd) (fs : List (List Nd)) (hP : Under P) (h : ∀ f ∈ fs, Under f) : Under (stkL P fs).1 := by
  induction fs using snocInd with
  | nil => exact hP
  | snoc fs f ih =>
    rw [stkL_snoc]
    exact under_sh (ih (fun g hg => h g (by simp [hg]))) (h f (by simp))

theorem stkL_small (P : List Nd) (fs : List (List Nd)) (hP : ∀ nd ∈ P, nd.1.length ≤ 24 ∧ nd.2.length ≤ 24) (h : ∀ f ∈ fs, ∀ nd ∈ f, nd.1.length ≤ 24 ∧ nd.2.length ≤ 24) : ∀ nd ∈ (stkL P fs).1, nd.1.length ≤ 24 ∧ nd.2.length ≤ 24 := by
  induction fs using snocInd with
  | nil => exact hP
  | snoc fs f ih =>
    rw [stkL_snoc]
    intro nd hnd
    simp only [stk, List.mem_append] at hnd
    rcases hnd with hnd | hnd
    · exact ih (fun g hg => h g (by simp [hg])) nd hnd
    · unfold shD at hnd
      obtain ⟨x, hx, rfl⟩ := List.mem_map.1 hnd
      have := h f (by simp) x hx
      simpa using this

theorem Reached.pre {A C : List Nd} {r k : Nat} (hp : A <+: C) (h : Reached A r k) : Reached C r k := by
  induction h with
  | root => exact .root
  | opt _ hn hx ih => exact .opt ih (get_pre hp hn) hx
theorem Reached.trans {A : List Nd} {r k j : Nat} (h : Reached A r k) (g : Reached A k j) : Reached A r j := by
  induction g with
  | root => exact h
  | opt _ hn hx ih => exact .opt ih hn hx
theorem Reached.sh {P f : List Nd} {r k : Nat} (h : Reached f r k) : Reached (P ++ shD P.length f) (P.length + r) (P.length + k) := by
  induction h with
  | root => exact .root
  | @opt k' x nd _ hn hx ih =>
    refine .opt (k := P.length + k') (nd := (nd.1.map (· + P.length), nd.2.map (· + P.length))) ih ?_ ?_
    · rw [List.getElem?_append_right (by omega), Nat.add_sub_cancel_left]
      exact shD_at hn
    · rcases hx with hx | hx
      · exact Or.inl (List.mem_map.2 ⟨x, hx, by omega⟩)
      · exact Or.inr (List.mem_map.2 ⟨x, hx, by omega⟩)

theorem stkL_reach (P : List Nd) (fs : List (List Nd)) (h : ∀ f ∈ fs, Fit f) : ∀ k, k < (stkL P fs).1.length → k < P.length ∨ ∃ t ∈ (stkL P fs).2, Reached (stkL P fs).1 t k := by
  induction fs using snocInd with
  | nil => intro k hk; exact Or.inl hk
  | snoc fs f ih =>
    have h1 := ih (fun g hg => h g (by simp [hg]))
    have h2 := h f (by simp)
    rw [stkL_snoc]
    intro k hk
    simp only [stk, List.length_append, shD_len] at hk ⊢
    rcases Nat.lt_or_ge k (stkL P fs).1.length with hlt | hge
    · rcases h1 k hlt with h3 | ⟨t, ht, hr⟩
      · exact Or.inl h3
      · exact Or.inr ⟨t, List.mem_append_left _ ht, hr.pre (List.prefix_append _ _)⟩
    · right
      refine ⟨(stkL P fs).1.length + f.length - 1, by simp, ?_⟩
      have hr := used_reach h2.under h2.used (f.length - 1 - (k - (stkL P fs).1.length)) (by have := h2.pos; omega)
      have hr2 := hr.sh (P := (stkL P fs).1)
      have e1 : (stkL P fs).1.length + (f.length - 1) = (stkL P fs).1.length + f.length - 1 := by have := h2.pos; omega
      have e2 : (stkL P fs).1.length + (f.length - 1 - (f.length - 1 - (k - (stkL P fs).1.length))) = k := by omega
      rwa [e1, e2] at hr2

/-- games with a node on top -/
def mkD (ls rs : List (List Nd)) : List Nd := (stkL (stkL [] ls).1 rs).1 ++ [((stkL [] ls).2, (stkL (stkL [] ls).1 rs).2)]

theorem mkD_under {ls rs : List (List Nd)} (hl : ∀ f ∈ ls, Fit f) (hr : ∀ f ∈ rs, Fit f) : Under (mkD ls rs) := by
  have hu := stkL_under _ rs (stkL_under [] ls (fun k nd hk => by simp at hk) (fun f hf => (hl f hf).under)) (fun f hf => (hr f hf).under)
  have t1 := stkL_lt [] ls (fun f hf => (hl f hf).pos)
  have t2 := stkL_lt (stkL [] ls).1 rs (fun f hf => (hr f hf).pos)
  have hp := (stkL_pre (stkL [] ls).1 rs).length_le
  intro k nd hk x hx
  unfold mkD at hk
  rcases Nat.lt_or_ge k (stkL (stkL [] ls).1 rs).1.length with hlt | hge
  · rw [List.getElem?_append_left hlt] at hk
    exact hu k nd hk x hx
  · rw [List.getElem?_append_right hge] at hk
    have hk0 := get_lt hk
    simp at hk0
    rw [show k - (stkL (stkL [] ls).1 rs).1.length = 0 from by omega] at hk
    simp only [List.getElem?_cons_zero, Option.some.injEq] at hk
    subst hk
    rcases hx with hx | hx
    · have := t1 x hx; omega
    · have := t2 x hx; omega

theorem mkD_len (ls rs : List (List Nd)) : (mkD ls rs).length = (stkL (stkL [] ls).1 rs).1.length + 1 := by simp [mkD]
theorem mkD_most {ls rs : List (List Nd)} (hl : ∀ f ∈ ls, Fit f) (hr : ∀ f ∈ rs, Fit f) : (mkD ls rs).length ≤ 125 * ls.length + 125 * rs.length + 1 := by
  have h1 := stkL_len [] ls (fun f hf => (hl f hf).most)
  have h2 := stkL_len (stkL [] ls).1 rs (fun f hf => (hr f hf).most)
  rw [mkD_len]
  simp only [List.length_nil] at h1
  omega

theorem mkD_reach {ls rs : List (List Nd)} (hl : ∀ f ∈ ls, Fit f) (hr : ∀ f ∈ rs, Fit f) (k : Nat) (hk : k < (mkD ls rs).length) : Reached (mkD ls rs) ((mkD ls rs).length - 1) k := by
  have hlast : (mkD ls rs)[(mkD ls rs).length - 1]? = some ((stkL [] ls).2, (stkL (stkL [] ls).1 rs).2) := by
    rw [mkD_len]
    unfold mkD
    simp
  have hpre : (stkL (stkL [] ls).1 rs).1 <+: mkD ls rs := List.prefix_append _ _
  have hpre1 : (stkL [] ls).1 <+: mkD ls rs := (stkL_pre _ _).trans hpre
  have hk2 := hk
  rw [mkD_len] at hk2
  by_cases e : k = (mkD ls rs).length - 1
  · rw [e]; exact .root
  · have hk3 : k < (stkL (stkL [] ls).1 rs).1.length := by rw [mkD_len] at e; omega
    rcases stkL_reach (stkL [] ls).1 rs hr k hk3 with h3 | ⟨t, ht, h4⟩
    · rcases stkL_reach [] ls hl k h3 with h5 | ⟨t, ht, h4⟩
      · simp at h5
      · exact (Reached.opt .root hlast (Or.inl ht)).trans (h4.pre hpre1)
    · exact (Reached.opt .root hlast (Or.inr ht)).trans (h4.pre hpre)

/-- where the tops are in a book -/
def atT (Q : List Nd) (T : List Nat) : List Nat := T.map fun t => (addF [] Q).2.getD t 0

theorem atT_step (Q : List Nd) (T : List Nat) (f : List Nd) (h0 : 0 < f.length) (hT : ∀ t ∈ T, t < Q.length) :
    atT (Q ++ shD Q.length f) (T ++ [Q.length + f.length - 1]) = atT Q T ++ [(addF (addF [] Q).1 f).2.getD (f.length - 1) 0] := by
  unfold atT
  have hl := at_lenP [] Q
  rw [addF_sh, List.map_append]
  congr 1
  · refine List.map_congr_left fun t ht => ?_
    exact getD_left _ _ _ (by rw [hl]; exact hT t ht)
  · simp only [List.map_cons, List.map_nil]
    have := getD_right (addF [] Q).2 (addF (addF [] Q).1 f).2 (f.length - 1)
    rw [hl] at this
    rw [← this]
    congr 2
    omega

theorem atT_keep (Q : List Nd) (T : List Nat) (f : List Nd) (hT : ∀ t ∈ T, t < Q.length) : atT (Q ++ shD Q.length f) T = atT Q T := by
  unfold atT
  have hl := at_lenP [] Q
  rw [addF_sh]
  exact List.map_congr_left fun t ht => getD_left _ _ _ (by rw [hl]; exact hT t ht)
end

section
set_option linter.unusedVariables false
set_option linter.unusedSimpArgs false

/-- the first nodes of a star -/
def starT (k : Nat) : List Nd := (List.range k).map fun j => (List.range j, List.range j)
theorem starT_len (k : Nat) : (starT k).length = k := by simp [starT]
theorem starT_succ (k : Nat) : starT (k + 1) = starT k ++ [(List.range k, List.range k)] := by simp [starT, List.range_succ]
theorem starT_at {k j : Nat} (h : j < k) : (starT k)[j]? = some (List.range j, List.range j) := by unfold starT; rw [List.getElem?_map, List.getElem?_range h]; rfl

/-- nodes of which each is born on the day of its number -/
def Line (P : List Nd) : Prop := ∀ (k : Nat) (nd : Nd), P[k]? = some nd → lastOf (fun x => x) nd = k

theorem line_born {P : List Nd} (h : Line P) (hu : Under P) : ∀ k, k < P.length → bOf P k = k := by
  have hb := births_bOf P hu
  intro k
  induction k using Nat.strongRecOn with
  | ind k ih =>
    intro hk
    obtain ⟨nd, hnd⟩ := lt_get hk
    rw [hb k nd hnd, lastOf_congr (bOf P) (fun x => x) nd (fun x hx => by
      have := hu k nd hnd x hx
      exact ih x this (by omega))]
    exact h k nd hnd

theorem line_rising {P : List Nd} (h : Line P) (hu : Under P) : RisingBy P (bOf P) := fun k x y hx hy => by
  left
  have h1 := get_lt hy
  rw [line_born h hu k (by omega), line_born h hu (k + 1) h1]
  omega

theorem line_snoc {P : List Nd} {nd : Nd} (h : Line P) (hn : lastOf (fun x => x) nd = P.length) : Line (P ++ [nd]) := fun k x hk => by
  rcases Nat.lt_or_ge k P.length with hlt | hge
  · rw [List.getElem?_append_left hlt] at hk
    exact h k x hk
  · rw [List.getElem?_append_right hge] at hk
    have h0 := get_lt hk
    simp at h0
    rw [show k - P.length = 0 from by omega] at hk
    simp only [List.getElem?_cons_zero, Option.some.injEq] at hk
    subst hk
    rw [hn]
    omega

theorem struct_snoc {P : List Nd} {nd : Nd} (h : Struct P) (h1 : nd.1.Pairwise (· < ·)) (h2 : nd.2.Pairwise (· < ·)) (h3 : ∀ x, x ∈ nd.1 ∨ x ∈ nd.2 → x < P.length) : Struct (P ++ [nd]) := fun k x hk => by
  rcases Nat.lt_or_ge k P.length with hlt | hge
  · rw [List.getElem?_append_left hlt] at hk
    exact h k x hk
  · rw [List.getElem?_append_right hge] at hk
    have h0 := get_lt hk
    simp at h0
    rw [show k - P.length = 0 from by omega] at hk
    simp only [List.getElem?_cons_zero, Option.some.injEq] at hk
    subst hk
    exact ⟨h1, h2, fun x hx => by have := h3 x hx; omega⟩

theorem used_snoc {P : List Nd} {nd : Nd} (h : Used P) (hn : 0 < P.length → P.length - 1 ∈ nd.1 ∨ P.length - 1 ∈ nd.2) : Used (P ++ [nd]) := fun i hi => by
  rw [List.length_append, List.length_singleton] at hi
  rcases Nat.lt_or_ge (i + 1) P.length with hlt | hge
  · obtain ⟨k, x, hk, hx⟩ := h i hlt
    exact ⟨k, x, by rw [List.getElem?_append_left (get_lt hk)]; exact hk, hx⟩
  · refine ⟨P.length, nd, by simp, ?_⟩
    rw [show i = P.length - 1 from by omega]
    exact hn (by omega)

/-- what is asked of nodes that are a good form, each born on its own day -/
structure LineF (P : List Nd) : Prop where
  line : Line P
  struct : Struct P
  used : Used P
  small : ∀ nd ∈ P, nd.1.length ≤ 24 ∧ nd.2.length ≤ 24
  first : P[0]? = some ([], [])

theorem LineF.pos {P : List Nd} (h : LineF P) : 0 < P.length := get_lt h.first

theorem LineF.snoc {P : List Nd} {nd : Nd} (h : LineF P) (hl : lastOf (fun x => x) nd = P.length) (h1 : nd.1.Pairwise (· < ·)) (h2 : nd.2.Pairwise (· < ·)) (h3 : ∀ x, x ∈ nd.1 ∨ x ∈ nd.2 → x < P.length) (h4 : P.length - 1 ∈ nd.1 ∨ P.length - 1 ∈ nd.2) (h5 : nd.1.length ≤ 24 ∧ nd.2.length ≤ 24) : LineF (P ++ [nd]) :=
  ⟨line_snoc h.line hl, struct_snoc h.struct h1 h2 h3, used_snoc h.used (fun _ => h4), fun x hx => by
    rcases List.mem_append.1 hx with hx | hx
    · exact h.small x hx
    · rw [List.mem_singleton] at hx; subst hx; exact h5, by rw [List.getElem?_append_left h.pos]; exact h.first⟩

theorem last_range (k : Nat) : lastOf (fun x => x) (List.range k, List.range k) = k := by
  refine Nat.le_antisymm (lastOf_le _ _ _ (fun x hx => by simpa using hx)) ?_
  cases k with
  | zero => exact Nat.zero_le _
  | succ k => exact lastOf_lt (fun x => x) (List.range (k + 1), List.range (k + 1)) k (Or.inl (List.mem_range.2 (Nat.lt_succ_self k)))

theorem range_asc (k : Nat) : (List.range k).Pairwise (· < ·) := List.pairwise_lt_range

theorem starT_good (k : Nat) (hk : k ≤ 24) : LineF (starT (k + 1)) := by
  induction k with
  | zero =>
    refine ⟨fun k nd hk => ?_, fun k nd hk => ?_, fun i hi => by rw [starT_len] at hi; omega, fun nd hnd => ?_, rfl⟩
    · have h0 := get_lt hk
      rw [starT_len] at h0
      rw [starT_at h0] at hk
      injection hk with hk
      subst hk
      exact last_range k
    · have h0 := get_lt hk
      rw [starT_len] at h0
      rw [starT_at h0] at hk
      injection hk with hk
      subst hk
      exact ⟨range_asc k, range_asc k, fun x hx => by simpa using hx⟩
    · simp [starT] at hnd
      subst hnd
      exact ⟨Nat.zero_le _, Nat.zero_le _⟩
  | succ k ih =>
    rw [starT_succ (k + 1)]
    have hl := starT_len (k + 1)
    refine (ih (by omega)).snoc (by rw [last_range, hl]) (range_asc _) (range_asc _) (fun x hx => by rw [hl]; simpa using hx) (Or.inl (by rw [hl]; simp)) ?_
    simp
    omega

/-- the nodes of ups and a star -/
def upD : Nat → Nat → List Nd
  | 0, s => starT (s + 1)
  | u + 1, s => if u = 0 ∧ s = 1 then starT 2 ++ [([0, 1], [0])] else upD u (s ^^^ 1) ++ [([0], [(upD u (s ^^^ 1)).length - 1])]

theorem upD_zero (s : Nat) : upD 0 s = starT (s + 1) := rfl
theorem upD_one : upD 1 1 = starT 2 ++ [([0, 1], [0])] := rfl
theorem upD_step (u s : Nat) (h : ¬ (u = 0 ∧ s = 1)) : upD (u + 1) s = upD u (s ^^^ 1) ++ [([0], [(upD u (s ^^^ 1)).length - 1])] := by
  rw [upD, if_neg h]

theorem xor_small {s : Nat} (h : s ≤ 15) : s ^^^ 1 ≤ 15 := by
  have := Nat.xor_lt_two_pow (n := 4) (x := s) (y := 1) (by omega) (by omega)
  omega

theorem last_up (m : Nat) (h : 0 < m) : lastOf (fun x => x) ([0], [m - 1]) = m := by
  unfold lastOf
  simp
  omega

theorem upD_good (u s : Nat) (hu : u ≤ 12) (hs : s ≤ 15) : LineF (upD u s) ∧ (upD u s).length ≤ u + 16 := by
  induction u generalizing s with
  | zero => exact ⟨starT_good s (by omega), by rw [upD_zero, starT_len]; omega⟩
  | succ u ih =>
    by_cases h : u = 0 ∧ s = 1
    · obtain ⟨rfl, rfl⟩ := h
      rw [upD_one]
      refine ⟨(starT_good 1 (by omega)).snoc (by decide) (by decide) (by decide) (fun x hx => by simp [starT_len] at hx ⊢; omega) (by rw [starT_len]; simp) (by decide), by simp [starT_len]⟩
    · rw [upD_step u s h]
      obtain ⟨h1, h2⟩ := ih (s ^^^ 1) (by omega) (xor_small hs)
      have hp := h1.pos
      refine ⟨h1.snoc (last_up _ hp) (by simp) (by simp) (fun x hx => ?_) (Or.inr (by simp)) (by simp), by simp; omega⟩
      simp at hx
      omega

theorem upD_starts (u s : Nat) (hu : u ≤ 12) (hs : s ≤ 15) : ∃ m, (upD u s).length = m + 1 := ⟨(upD u s).length - 1, by have := (upD_good u s hu hs).1.pos; omega⟩

/-- nodes that each fall to a node of nodes in order -/
theorem canon_via {P out : List Nd} {pl : Nat → Nat} (hu : Under P) (hs : Struct out) (hr : RisingBy out (bOf out)) (hn : ∀ (k : Nat) (nd : Nd), P[k]? = some nd → out[pl k]? = some (movd pl nd)) (hsur : ∀ i, i < out.length → ∃ k, k < P.length ∧ pl k = i) : Canon P (bOf P) (fun _ => True) out pl := by
  have hbP := births_bOf P hu
  have hbo := births_bOf out hs.under
  have hb : ∀ k, k < P.length → bOf out (pl k) = bOf P k := by
    intro k
    induction k using Nat.strongRecOn with
    | ind k ih =>
      intro hk
      obtain ⟨nd, hnd⟩ := lt_get hk
      rw [hbP k nd hnd, hbo (pl k) _ (hn k nd hnd)]
      exact lastOf_map (bOf P) (bOf out) pl nd (fun x hx => by
        have := hu k nd hnd x hx
        exact ih x this (by omega))
  have hp : ∀ k, k < P.length → pl k < out.length := fun k hk => by
    obtain ⟨nd, hnd⟩ := lt_get hk
    exact get_lt (hn k nd hnd)
  have hc := canon_of_rising hs hbo hr.rising
  refine ⟨fun k nd hk _ => hn k nd hk, fun i hi => ?_, fun k j hk hj _ _ h => ?_, fun k j x y hk hj _ _ h hx hy hl => ?_, fun k j hk hj _ _ h => ?_⟩
  · obtain ⟨k, h1, h2⟩ := hsur i hi
    exact ⟨k, h1, trivial, h2⟩
  · exact hc.born (pl k) (pl j) (hp k hk) (hp j hj) trivial trivial (by rw [hb k hk, hb j hj]; exact h)
  · exact hc.ahead (pl k) (pl j) x y (hp k hk) (hp j hj) trivial trivial (by rw [hb k hk, hb j hj]; exact h) hx hy hl
  · exact hc.once (pl k) (pl j) (hp k hk) (hp j hj) trivial trivial h

theorem LineF.rising {P : List Nd} (h : LineF P) : RisingBy P (bOf P) := line_rising h.line h.struct.under

theorem LineF.fit {P : List Nd} (h : LineF P) (hl : P.length ≤ 125) : Fit P := ⟨h.pos, hl, h.struct.under, h.used, h.small⟩

theorem LineF.goodB {P : List Nd} (h : LineF P) (hl : P.length ≤ 120) : goodB (P.map upN) = true := by
  refine (goodB_iff _).2 ⟨⟨by simpa using h.pos, by simpa using hl, fun nd hnd => ?_⟩, structZ_up h.struct, ?_, ?_⟩
  · obtain ⟨x, hx, rfl⟩ := List.mem_map.1 hnd
    have := h.small x hx
    simpa [upN, upL] using this
  · rw [down_up]; exact h.rising
  · rw [down_up]; exact h.used

def zeroD : List Nd := [([], [])]
theorem zeroD_star : zeroD = starT 1 := rfl
theorem zero_fit : Fit zeroD := (starT_good 0 (by omega)).fit (by decide)

/-- the model's up on a game -/
theorem up_make {f : List Nd} (h : LineF f) (hl : f.length ≤ 100) : formM (mkD [zeroD] [f]) = f ++ [([0], [f.length - 1])] := by
  have hp := h.pos
  have hg : LineF (f ++ [([0], [f.length - 1])]) := h.snoc (last_up _ hp) (by simp) (by simp) (fun x hx => by simp at hx; omega) (Or.inr (by simp)) (by simp)
  have e : mkD [zeroD] [f] = [([], [])] ++ shD 1 f ++ [([0], [f.length])] := by
    have e1 : stkL [] [zeroD] = ([([], [])], [0]) := by simp [stkL, stk, zeroD, shD]
    unfold mkD
    rw [e1]
    have e2 : stkL [([], [])] [f] = ([([], [])] ++ shD 1 f, [1 + f.length - 1]) := by simp [stkL, stk]
    rw [e2]
    dsimp only
    rw [show 1 + f.length - 1 = f.length from by omega]
  have hfz : ∀ g ∈ [zeroD], Fit g := fun g hg => by simp at hg; subst hg; exact zero_fit
  have hff : ∀ g ∈ [f], Fit g := fun g hg => by simp at hg; subst hg; exact h.fit (by omega)
  have hu := mkD_under hfz hff
  have hlen : (mkD [zeroD] [f]).length = f.length + 2 := by rw [e]; simp only [List.length_append, shD_len, List.length_singleton]; omega
  refine (order_is hu (by omega) (mkD_reach hfz hff) (canon_via (pl := fun k => k - 1) hu hg.struct hg.rising (fun k nd hk => ?_) (fun i hi => ?_))).symm
  · rw [e] at hk
    rcases Nat.lt_or_ge k (f.length + 1) with hlt | hge
    · rw [List.getElem?_append_left (by simp [shD_len]; omega)] at hk
      cases k with
      | zero =>
        simp at hk
        subst hk
        rw [List.getElem?_append_left (by simpa using hp)]
        exact h.first
      | succ k =>
        simp at hk
        obtain ⟨x, hx, rfl⟩ := shD_get hk
        rw [show k + 1 - 1 = k from by omega, List.getElem?_append_left (get_lt hx), hx]
        have hid := movd_id h.struct hx
        unfold movd at hid ⊢
        simp only [List.map_map, Function.comp_def, Nat.add_sub_cancel]
        rw [← hid]
        simp only [List.map_id']
        rw [sortd_id _ (sortd_asc _), sortd_id _ (sortd_asc _)]
    · rw [List.getElem?_append_right (by simp [shD_len]; omega)] at hk
      have h0 := get_lt hk
      simp [shD_len] at h0
      have hk0 : k = f.length + 1 := by omega
      subst hk0
      simp [shD_len] at hk
      subst hk
      rw [show f.length + 1 - 1 = f.length from by omega]
      simp [movd, sortd, putN]
  · refine ⟨i + 1, ?_, by omega⟩
    rw [hlen]
    simp at hi
    omega

theorem up_star : formM (mkD [zeroD, starT 2] [zeroD]) = starT 2 ++ [([0, 1], [0])] := by decide

theorem up_next (u s : Nat) (hu : u + 1 ≤ 12) (hs : s ≤ 15) (h : ¬ (u = 0 ∧ s = 1)) : formM (mkD [zeroD] [upD u (s ^^^ 1)]) = upD (u + 1) s := by
  obtain ⟨h1, h2⟩ := upD_good u (s ^^^ 1) (by omega) (xor_small hs)
  rw [up_make h1 (by omega), upD_step u s h]
end

section
set_option linter.unusedVariables false
set_option linter.unusedSimpArgs false
open Go.RowKit

theorem below_viaZ {a W b : World} (h : Below a.heap.size a W) (g : Below W.heap.size W b) : Below a.heap.size a b := h.trans (g.mono h.size)

theorem formsZ_one {w : World} {B : Nat} {v : Value} {f : List Nz} {lo hi : Nat} (hc : w.cell? ⟨B, 0, none⟩ = some v) (hn : NodesZ w lo hi v f) (h1 : lo ≤ B) (h2 : B < hi) : FormsZ w lo hi (.slice (some ⟨B, 0, none⟩) 1 1) [f] :=
  ⟨_, 1, rfl, ⟨Nat.le_refl _, by simp⟩, fun j g hj => by
    have h0 := get_lt hj
    simp at h0
    subst h0
    simp at hj
    subst hj
    exact ⟨B, 0, v, rfl, h1, h2, hc, hn⟩⟩
theorem formsZ_two {w : World} {B : Nat} {v1 v2 : Value} {f1 f2 : List Nz} {lo hi : Nat} (hc1 : w.cell? ⟨B, 0, none⟩ = some v1) (hc2 : w.cell? ⟨B, 1, none⟩ = some v2) (hn1 : NodesZ w lo hi v1 f1) (hn2 : NodesZ w lo hi v2 f2) (h1 : lo ≤ B) (h2 : B < hi) : FormsZ w lo hi (.slice (some ⟨B, 0, none⟩) 2 2) [f1, f2] :=
  ⟨_, 2, rfl, ⟨Nat.le_refl _, by simp⟩, fun j g hj => by
    have h0 := get_lt hj
    simp at h0
    rcases (show j = 0 ∨ j = 1 by omega) with rfl | rfl
    · simp at hj
      subst hj
      exact ⟨B, 0, v1, rfl, h1, h2, hc1, hn1⟩
    · simp at hj
      subst hj
      exact ⟨B, 0, v2, rfl, h1, h2, hc2, hn2⟩⟩

def FormPost (w : World) (f : List Nz) (e : Ending) (w' : World) : Prop := ∃ a c, e = .returned (.agg #[.slice a f.length c]) ∧ NodesZ w' w.heap.size w'.heap.size (.slice a f.length c) f ∧ Below w.heap.size w w'

theorem zeroS_calls (w : World) : Calls Tryz.prog 19 #[] w (FormPost w (zeroD.map upN)) := by
  go_enter Tryz.func19, Tryz.ntmps19
  go_wp2_with fail
  have z1 : (w.alloc (.cells #[.slice (some ⟨w.heap.size + 1, 0, none⟩) 1 1] 26)).heap.size = w.heap.size + 1 := by simp
  have b1 : Below w.heap.size w (w.alloc (.cells #[.slice (some ⟨w.heap.size + 1, 0, none⟩) 1 1] 26)) := (Below.refl _ _).alloc (Nat.le_refl _) _
  have b2 : Below (w.alloc (.cells #[.slice (some ⟨w.heap.size + 1, 0, none⟩) 1 1] 26)).heap.size (w.alloc (.cells #[.slice (some ⟨w.heap.size + 1, 0, none⟩) 1 1] 26)) ((w.alloc (.cells #[.slice (some ⟨w.heap.size + 1, 0, none⟩) 1 1] 26)).alloc (.cells #[.slice none 0 0, .slice none 0 0] 57)) := (Below.refl _ _).alloc (Nat.le_refl _) _
  have hcr : ((w.alloc (.cells #[.slice (some ⟨w.heap.size + 1, 0, none⟩) 1 1] 26)).alloc (.cells #[.slice none 0 0, .slice none 0 0] 57)).cell? ⟨w.heap.size, 0, none⟩ = some (.slice (some ⟨w.heap.size + 1, 0, none⟩) 1 1) := (bcell b2 _ _ (by simp)).trans (by go_simp)
  have n1 : ((w.alloc (.cells #[.slice (some ⟨w.heap.size + 1, 0, none⟩) 1 1] 26)).alloc (.cells #[.slice none 0 0, .slice none 0 0] 57)).cell? ⟨w.heap.size + 1, 0, none⟩ = some (.slice none 0 0) := by rw [← z1]; go_simp
  have n2 : ((w.alloc (.cells #[.slice (some ⟨w.heap.size + 1, 0, none⟩) 1 1] 26)).alloc (.cells #[.slice none 0 0, .slice none 0 0] 57)).cell? ⟨w.heap.size + 1, 1, none⟩ = some (.slice none 0 0) := by rw [← z1]; go_simp
  have hz : ((w.alloc (.cells #[.slice (some ⟨w.heap.size + 1, 0, none⟩) 1 1] 26)).alloc (.cells #[.slice none 0 0, .slice none 0 0] 57)).heap.size = w.heap.size + 2 := by simp
  refine bodyPost_ret (v := .agg #[.slice (some ⟨w.heap.size + 1, 0, none⟩) 1 1]) (by simp [results, Tryz.results19, go_sem, hcr]) rfl ⟨some ⟨w.heap.size + 1, 0, none⟩, 1, rfl, ?_, below_viaZ b1 b2⟩
  refine ⟨_, 1, rfl, ⟨Nat.le_refl _, by simp⟩, fun j nd hj => ?_⟩
  have h0 := get_lt hj
  have h1 : (zeroD.map upN).length = 1 := rfl
  rw [h1] at h0
  obtain rfl : j = 0 := by omega
  have e : nd = ([], []) := by
    have h2 : (zeroD.map upN)[0]? = some ([], []) := rfl
    rw [h2] at hj
    injection hj with hj
    exact hj.symm
  subst e
  exact ⟨w.heap.size + 1, 0, .slice none 0 0, .slice none 0 0, rfl, by omega, by rw [hz]; omega, n1, n2, ⟨none, 0, rfl, by simp, fun j x hx => by simp at hx⟩, ⟨none, 0, rfl, by simp, fun j x hx => by simp at hx⟩⟩
end

section
section
open Go.RowKit
set_option linter.unusedVariables false
set_option linter.unusedSimpArgs false

theorem slice_form {w : World} {lo hi : Nat} {v : Value} {f : List Nz} (h : NodesZ w lo hi v f) : ∃ a c, v = .slice a f.length c := by obtain ⟨a, c, e, _⟩ := h; exact ⟨a, c, e⟩

theorem l3If_calls (v : Value) (f : List Nz) (ok : Bool) (hok : Hid (fitsB f = ok)) (w : World) (lo hi : Nat) (hh : hi ≤ w.heap.size) (hv : NodesZ w lo hi v f) :
    Calls Tryz.prog 34 #[.agg #[v]] w fun e w' => e = .returned (.tuple #[.agg #[if ok then v else .slice none 0 0], .bool ok]) ∧ Below w.heap.size w w' := by
  have HB0 := Lib.hid fun o o' => show Below w.heap.size w ((w.alloc o).alloc o') from ((Below.refl _ _).alloc (Nat.le_refl _) _).alloc (by simp) _
  have C := Lib.hid fun (W : World) (hW : Below w.heap.size w W) => show Calls Tryz.prog 43 #[.agg #[v]] W fun e w' => e = .returned (.bool ok) ∧ Below W.heap.size W w' from by
    rw [← hok.out]
    exact fitsS_calls v f W lo hi (Nat.le_trans hh hW.size) (hv.below hW hh)
  obtain ⟨av, cv, rfl⟩ := slice_form hv
  clear hok hv
  go_enter Tryz.func34, Tryz.ntmps34
  go_wp2_with fail
  refine (C.out _ (HB0.out _ _)).mono ?_
  rintro e w4 ⟨rfl, hb4⟩
  have k0 : w4.cell? ⟨w.heap.size, 0, none⟩ = some (.slice av f.length cv) := (bcell hb4 _ _ (by simp; omega)).trans (by go_simp)
  obtain ⟨d0, z0⟩ : BoxAt w4 (w.heap.size + 1) (.slice none 0 0) := BoxAt.below ⟨by go_simp, by go_simp⟩ hb4
  have HB4 := Lib.hid (Below.trans (HB0.out _ _) (hb4.mono (by simp; omega)))
  have hlt := block_of_cell d0
  clear hb4 C
  cases ok with
  | false =>
    have B4 := Lib.hid (HB4.out.setCell (p := ⟨w.heap.size + 1, 0, none⟩) (by show w.heap.size ≤ w.heap.size + 1; omega) (.slice none 0 0))
    have hcr := World.cell?_setCell_same w4 ⟨w.heap.size + 1, 0, none⟩ (.slice none 0 0) d0
    go_wp2_with fail
    exact bodyPost_ret (v := .tuple #[.agg #[.slice none 0 0], .bool false]) (by simp [results, Tryz.results34, go_sem, hcr]) rfl ⟨rfl, B4.out⟩
  | true =>
    have B4 := Lib.hid (HB4.out.setCell (p := ⟨w.heap.size + 1, 0, none⟩) (by show w.heap.size ≤ w.heap.size + 1; omega) (.slice av f.length cv))
    have hcr := World.cell?_setCell_same w4 ⟨w.heap.size + 1, 0, none⟩ (.slice av f.length cv) d0
    go_wp2_with fail
    exact bodyPost_ret (v := .tuple #[.agg #[.slice av f.length cv], .bool true]) (by simp [results, Tryz.results34, go_sem, hcr]) rfl ⟨rfl, B4.out⟩

theorem fitsN_B (P : List Nd) : fitsN P = fitsB (P.map upN) := by
  have h1 := fitsN_iff P
  have h2 := fitsB_iff (P.map upN)
  cases hN : fitsN P <;> cases hB : fitsB (P.map upN)
  · rfl
  · rw [h2] at hB; rw [h1.2 hB] at hN; exact hN.symm
  · rw [h1] at hN; rw [h2.2 hN] at hB; exact hB
  · rfl

end
end

section
open Go.RowKit
set_option linter.unusedVariables false
set_option linter.unusedSimpArgs false

theorem goodS_res (v : Value) (f : List Nz) (r : Bool) (hr : Hid (goodB f = r)) (w : World) (lo hi : Nat) (hh : hi ≤ w.heap.size) (hv : NodesZ w lo hi v f) :
    Calls Tryz.prog 28 #[.agg #[v]] w fun e w' => e = .returned (.bool r) ∧ Below w.heap.size w w' := by
  rw [← hr.out]
  exact goodS_calls v f w lo hi hh hv
end

section
/-- are all forms good, and at most so many? -/
def alB (m : Nat) (Fs : List (List Nz)) : Bool := decide (Fs.length ≤ m) && Fs.all goodB

theorem alB_parts {m : Nat} {Fs : List (List Nz)} (h : alB m Fs = true) : Fs.length ≤ m ∧ ∀ f ∈ Fs, goodB f = true := by
  unfold alB at h
  rw [Bool.and_eq_true, decide_eq_true_eq, List.all_eq_true] at h
  exact h
end

section
set_option linter.unusedVariables false
set_option linter.unusedSimpArgs false
open Go.RowKit

theorem all_take_snoc {Fs : List (List Nz)} {k : Nat} {f : List Nz} (h : ∀ g ∈ Fs.take k, goodB g = true) (hf : Fs[k]? = some f) (hg : goodB f = true) : ∀ g ∈ Fs.take (k + 1), goodB g = true := fun g hm => by
  rw [List.take_add_one, hf] at hm
  rcases List.mem_append.1 hm with h1 | h1
  · exact h g h1
  · simp at h1; rw [h1]; exact hg

set_option maxRecDepth 100000 in
set_option maxHeartbeats 1000000 in
theorem l3All_calls (v : Value) (Fs : List (List Nz)) (m : Nat) (hm : m ≤ 1000) (r : Bool) (hr : Hid (alB m Fs = r)) (w : World) (lo hi : Nat) (hh : hi ≤ w.heap.size) (hv : FormsZ w lo hi v Fs) :
    Calls Tryz.prog 18 #[v, .int .i64 m] w fun e w' => e = .returned (.bool r) ∧ Below w.heap.size w w' := by
  have HV := Lib.hid hv
  obtain ⟨ao, c, rfl, hcap, _⟩ := hv
  go_enter Tryz.func18, Tryz.ntmps18
  go_wp2
  go_loopw [5] (fun i wr => ∃ k : Nat, k ≤ Fs.length ∧ k ≤ m + 1 ∧ i = .int .i64 k ∧ Hid (∀ g ∈ Fs.take k, goodB g = true) ∧ Hid (Below w.heap.size w wr)) (fun i _ => Fs.length - (intOf i).toNat)
  case atStart => exact ⟨0, Nat.zero_le _, by omega, rfl, Lib.hid (fun f hf => by simp at hf), Lib.hid (Below.refl _ _)⟩
  case round =>
    obtain ⟨k, hk, hkm, rfl, hgd, hb⟩ := hrel
    by_cases hlt : k < Fs.length
    · by_cases hle : k ≤ m
      · obtain ⟨f, hf⟩ := lt_get hlt
        obtain ⟨ao1, c1, e1, _, hn⟩ := HV.out.below hb.out hh
        obtain ⟨b, off, vf, rfl, _, hbh, p1, i1⟩ := hn k f hf
        obtain ⟨q1, q2, q3⟩ := slice_inj e1
        subst q1 q3
        clear q2 hn e1
        obtain ⟨rf, hrf⟩ : ∃ r, goodB f = r := ⟨_, rfl⟩
        have C := Lib.hid (goodS_res vf f rf (Lib.hid hrf) wr lo hi (by have := hb.out.size; omega) i1)
        have HF := Lib.hid hf
        have HRF := Lib.hid hrf
        have hbs := hb.out.size
        obtain ⟨af, nf, cf, rfl⟩ : ∃ a n c, vf = .slice a n c := by obtain ⟨a, c, e, _⟩ := i1; exact ⟨a, _, c, e⟩
        have k0 : (0 : Int) ≤ k := by omega
        have k1 : (k : Int) < Fs.length := by omega
        have k2 : (k : Int) ≤ m := by omega
        clear hf hrf i1
        go_wp2_with fail
        refine C.out.mono ?_
        rintro e w1 ⟨rfl, hb1⟩
        have HB1 := Lib.hid (hb.out.trans (hb1.mono hbs))
        clear hb1 C hb p1
        cases rf with
        | false =>
          obtain rfl : r = false := by
            rw [← hr.out]
            unfold alB
            rw [Bool.and_eq_false_iff]
            right
            rw [List.all_eq_false]
            exact ⟨f, List.mem_of_getElem? HF.out, by rw [HRF.out]; simp⟩
          clear hr
          go_wp2_with fail
          go_ret
          exact ⟨rfl, HB1.out⟩
        | true =>
          have HG2 := Lib.hid (all_take_snoc hgd.out HF.out HRF.out)
          clear hgd
          go_wp2_with fail
          go_roundw
          case rel => exact ⟨k + 1, by omega, by omega, by go_num, HG2, HB1⟩
          case measure => first | (simp [intOf]; done) | (simp [intOf]; omega)
      · obtain rfl : r = false := by
          rw [← hr.out]
          unfold alB
          rw [Bool.and_eq_false_iff]
          left
          rw [decide_eq_false_iff_not]
          omega
        have k1 : (k : Int) < Fs.length := by omega
        have k2 : ¬ (k : Int) ≤ m := by omega
        have k3 : ¬ (Fs.length : Int) ≤ m := by omega
        clear hr
        go_wp2
        go_ret
        exact ⟨by first | rfl | exact ret_bool (decide_eq_false k3) | exact ret_bool (by simp; omega), hb.out⟩
    · have hke : k = Fs.length := by omega
      subst hke
      have HRR : Hid (decide (Fs.length ≤ m) = r) := Lib.hid (by
        rw [← hr.out]
        unfold alB
        have h := hgd.out
        rw [List.take_length] at h
        rw [List.all_eq_true.2 h, Bool.and_true])
      clear hr hgd
      go_wp2
      all_goals
        go_ret
        exact ⟨by first | exact ret_bool HRR.out | exact ret_bool (by rw [← HRR.out]; simp) | exact ret_bool (by rw [← HRR.out]; simp; omega), hb.out⟩
end

section
section
open Go.RowKit
set_option linter.unusedVariables false
set_option linter.unusedSimpArgs false

theorem mul_cast {m n : Nat} (h : m * n ≤ 1000000) : IntKind.i64.wrap ((m : Int) * (n : Int)) = ((m * n : Nat) : Int) := by
  rw [← Int.natCast_mul]
  exact IntWalk.i64_in _ (by omega)

theorem pairB_parts {f g : List Nz} {r1 r2 r : Bool} (h1 : goodB f = r1) (h2 : goodB g = r2) (hr : pairB f g = r) : r = (r1 && (r2 && decide (f.length * g.length ≤ 1600))) := by
  rw [← hr, ← h1, ← h2]; rfl

set_option maxRecDepth 100000 in
set_option maxHeartbeats 2000000 in
theorem goodPair_calls (va vb : Value) (f g : List Nz) (r : Bool) (hr : Hid (pairB f g = r)) (w : World) (lo hi lo' hi' : Nat) (hh : hi ≤ w.heap.size) (hh' : hi' ≤ w.heap.size) (hva : NodesZ w lo hi va f) (hvb : NodesZ w lo' hi' vb g) :
    Calls Tryz.prog 36 #[.agg #[va], .agg #[vb]] w fun e w' => e = .returned (.bool r) ∧ Below w.heap.size w w' := by
  have HB0 := Lib.hid fun o o' => show Below w.heap.size w ((w.alloc o).alloc o') from ((Below.refl _ _).alloc (Nat.le_refl _) _).alloc (by simp) _
  obtain ⟨r1, h1⟩ : ∃ r, goodB f = r := ⟨_, rfl⟩
  obtain ⟨r2, h2⟩ : ∃ r, goodB g = r := ⟨_, rfl⟩
  have HR := Lib.hid (pairB_parts h1 h2 hr.out)
  have HLA : Hid (r1 = true → f.length ≤ 120) := Lib.hid (fun e => (good_parts (h1.trans e)).2.2.2.2.1)
  have HLB : Hid (r2 = true → g.length ≤ 120) := Lib.hid (fun e => (good_parts (h2.trans e)).2.2.2.2.1)
  have CA := Lib.hid fun (W : World) (hW : Below w.heap.size w W) => goodI_res va f r1 (Lib.hid h1) W lo hi (Nat.le_trans hh hW.size) (hva.below hW hh)
  have CB := Lib.hid fun (W : World) (hW : Below w.heap.size w W) => goodI_res vb g r2 (Lib.hid h2) W lo' hi' (Nat.le_trans hh' hW.size) (hvb.below hW hh')
  obtain ⟨aa, ca, rfl⟩ : ∃ ao c, va = .slice ao f.length c := by obtain ⟨ao, c, e, _⟩ := hva; exact ⟨ao, c, e⟩
  obtain ⟨ab, cb, rfl⟩ : ∃ ao c, vb = .slice ao g.length c := by obtain ⟨ao, c, e, _⟩ := hvb; exact ⟨ao, c, e⟩
  clear h1 h2 hr hva hvb
  go_enter Tryz.func36, Tryz.ntmps36
  go_wp2_with fail
  refine (CA.out _ (HB0.out _ _)).mono ?_
  rintro e w4 ⟨rfl, hb4⟩
  have k1 : w4.cell? ⟨w.heap.size, 0, none⟩ = some (.slice aa f.length ca) := (bcell hb4 _ _ (by simp; omega)).trans (by go_simp)
  have k2 : w4.cell? ⟨w.heap.size + 1, 0, none⟩ = some (.slice ab g.length cb) := (bcell hb4 _ _ (by simp)).trans (by go_simp)
  have HB4 := Lib.hid (Below.trans (HB0.out _ _) (hb4.mono (by simp; omega)))
  clear hb4 CA
  cases r1 with
  | false =>
    obtain rfl := HR.out
    go_wp2_with fail
    go_ret
    exact ⟨rfl, HB4.out⟩
  | true =>
    have b1 := block_of_cell k1
    have b2 := block_of_cell k2
    go_wp2_with fail
    refine (CB.out _ HB4.out).mono ?_
    rintro e w5 ⟨rfl, hb5⟩
    have k1 := (bcell hb5 _ _ b1).trans k1
    have k2 := (bcell hb5 _ _ b2).trans k2
    have HB5 := Lib.hid (HB4.out.trans (hb5.mono HB4.out.size))
    clear hb5 b1 b2
    cases r2 with
    | false =>
      obtain rfl := HR.out
      go_wp2_with fail
      go_ret
      exact ⟨rfl, HB5.out⟩
    | true =>
      have hla : f.length ≤ 120 := by have h := HLA.out; simpa using h
      have hlb : g.length ≤ 120 := by have h := HLB.out; simpa using h
      have hAB : f.length * g.length ≤ 120 * 120 := Nat.mul_le_mul hla hlb
      obtain ⟨n, hn⟩ : ∃ n : Nat, f.length * g.length = n := ⟨_, rfl⟩
      have HR2 : Hid (r = decide (n ≤ 1600)) := Lib.hid (by rw [HR.out, hn]; rfl)
      have hwm : IntKind.i64.wrap ((f.length : Int) * (g.length : Int)) = (n : Int) := by rw [mul_cast (by omega), hn]
      rw [hn] at hAB
      clear hn HR
      have hde : decide ((n : Int) ≤ 1600) = r := by rw [HR2.out]; exact decide_eq_decide.2 (by clear hwm; omega)
      go_wp2_with fail
      go_ret
      exact ⟨by first | rfl | exact ret_bool hde, HB5.out⟩

end
end

section
section
open Go.RowKit
set_option linter.unusedVariables false
set_option linter.unusedSimpArgs false

theorem mulS_cast {m n : Nat} (h : m * n ≤ 1000000) : IntKind.i64.wrap ((m : Int) * (n : Int)) = ((m * n : Nat) : Int) := by
  rw [← Int.natCast_mul]
  exact IntWalk.i64_in _ (by omega)

set_option maxRecDepth 100000 in
set_option maxHeartbeats 2000000 in
theorem l5Pair_calls (va vb : Value) (f g : List Nz) (r : Bool) (hr : Hid (pairB f g = r)) (w : World) (lo hi lo' hi' : Nat) (hh : hi ≤ w.heap.size) (hh' : hi' ≤ w.heap.size) (hva : NodesZ w lo hi va f) (hvb : NodesZ w lo' hi' vb g) :
    Calls Tryz.prog 33 #[.agg #[va], .agg #[vb]] w fun e w' => e = .returned (.bool r) ∧ Below w.heap.size w w' := by
  have HB0 := Lib.hid fun o o' => show Below w.heap.size w ((w.alloc o).alloc o') from ((Below.refl _ _).alloc (Nat.le_refl _) _).alloc (by simp) _
  obtain ⟨r1, h1⟩ : ∃ r, goodB f = r := ⟨_, rfl⟩
  obtain ⟨r2, h2⟩ : ∃ r, goodB g = r := ⟨_, rfl⟩
  have HR := Lib.hid (pairB_parts h1 h2 hr.out)
  have HLA : Hid (r1 = true → f.length ≤ 120) := Lib.hid (fun e => (good_parts (h1.trans e)).2.2.2.2.1)
  have HLB : Hid (r2 = true → g.length ≤ 120) := Lib.hid (fun e => (good_parts (h2.trans e)).2.2.2.2.1)
  have CA := Lib.hid fun (W : World) (hW : Below w.heap.size w W) => goodS_res va f r1 (Lib.hid h1) W lo hi (Nat.le_trans hh hW.size) (hva.below hW hh)
  have CB := Lib.hid fun (W : World) (hW : Below w.heap.size w W) => goodS_res vb g r2 (Lib.hid h2) W lo' hi' (Nat.le_trans hh' hW.size) (hvb.below hW hh')
  obtain ⟨aa, ca, rfl⟩ : ∃ ao c, va = .slice ao f.length c := by obtain ⟨ao, c, e, _⟩ := hva; exact ⟨ao, c, e⟩
  obtain ⟨ab, cb, rfl⟩ : ∃ ao c, vb = .slice ao g.length c := by obtain ⟨ao, c, e, _⟩ := hvb; exact ⟨ao, c, e⟩
  clear h1 h2 hr hva hvb
  go_enter Tryz.func33, Tryz.ntmps33
  go_wp2_with fail
  refine (CA.out _ (HB0.out _ _)).mono ?_
  rintro e w4 ⟨rfl, hb4⟩
  have k1 : w4.cell? ⟨w.heap.size, 0, none⟩ = some (.slice aa f.length ca) := (bcell hb4 _ _ (by simp; omega)).trans (by go_simp)
  have k2 : w4.cell? ⟨w.heap.size + 1, 0, none⟩ = some (.slice ab g.length cb) := (bcell hb4 _ _ (by simp)).trans (by go_simp)
  have HB4 := Lib.hid (Below.trans (HB0.out _ _) (hb4.mono (by simp; omega)))
  clear hb4 CA
  cases r1 with
  | false =>
    obtain rfl := HR.out
    go_wp2_with fail
    go_ret
    exact ⟨rfl, HB4.out⟩
  | true =>
    have b1 := block_of_cell k1
    have b2 := block_of_cell k2
    go_wp2_with fail
    refine (CB.out _ HB4.out).mono ?_
    rintro e w5 ⟨rfl, hb5⟩
    have k1 := (bcell hb5 _ _ b1).trans k1
    have k2 := (bcell hb5 _ _ b2).trans k2
    have HB5 := Lib.hid (HB4.out.trans (hb5.mono HB4.out.size))
    clear hb5 b1 b2
    cases r2 with
    | false =>
      obtain rfl := HR.out
      go_wp2_with fail
      go_ret
      exact ⟨rfl, HB5.out⟩
    | true =>
      have hla : f.length ≤ 120 := by have h := HLA.out; simpa using h
      have hlb : g.length ≤ 120 := by have h := HLB.out; simpa using h
      have hAB : f.length * g.length ≤ 120 * 120 := Nat.mul_le_mul hla hlb
      obtain ⟨n, hn⟩ : ∃ n : Nat, f.length * g.length = n := ⟨_, rfl⟩
      have HR2 : Hid (r = decide (n ≤ 1600)) := Lib.hid (by rw [HR.out, hn]; rfl)
      have hwm : IntKind.i64.wrap ((f.length : Int) * (g.length : Int)) = (n : Int) := by rw [mul_cast (by omega), hn]
      rw [hn] at hAB
      clear hn HR
      have hde : decide ((n : Int) ≤ 1600) = r := by rw [HR2.out]; exact decide_eq_decide.2 (by clear hwm; omega)
      go_wp2_with fail
      go_ret
      exact ⟨by first | rfl | exact ret_bool hde, HB5.out⟩

end
end

section
section
open Go.RowKit
set_option linter.unusedVariables false
set_option linter.unusedSimpArgs false

theorem nodeS_at {P : List Nd} {w : World} {lo hi : Nat} {ao : Option Addr} {c i : Nat} {nd : Nd} (h : NodesZ w lo hi (.slice ao P.length c) (P.map upN)) (hnd : P[i]? = some nd) :
    ∃ b off x1 y1 x2 y2, ao = some ⟨b, off, none⟩ ∧ w.cell? ⟨b, off + i * 2, none⟩ = some (.slice x1 nd.1.length y1) ∧ w.cell? ⟨b, off + i * 2 + 1, none⟩ = some (.slice x2 nd.2.length y2) ∧ IntsZ w lo hi (.slice x1 nd.1.length y1) (upL nd.1) ∧ IntsZ w lo hi (.slice x2 nd.2.length y2) (upL nd.2) := by
  obtain ⟨b, off, cc, v1, v2, e, hbh, p1, p2, i1, i2⟩ := nodes_atP h hnd
  obtain ⟨q1, q2, q3⟩ := slice_inj e
  obtain ⟨a1, d1, rfl, _⟩ := ints_lenP i1
  obtain ⟨a2, d2, rfl, _⟩ := ints_lenP i2
  exact ⟨b, off, a1, d1, a2, d2, q1, p1, p2, i1, i2⟩

theorem at_cell {base : Nat} {wr : World} {P : List Nd} {ga ca : Nat} {vn vb : Value} {vs : List (Value × Value)} (h : BkAt base wr P ga ca vn vb vs) {x : Nat} (hx : x < P.length) : wr.cell? ⟨ga, x, none⟩ = some (.int .i64 (((addF [] P).2.getD x 0 : Nat) : Int)) := by
  obtain ⟨z, hz⟩ := lt_get (l := (addF [] P).2) (i := x) (by rw [at_len]; exact hx)
  rw [World.ownsRow.cellAt h.own x (by omega), List.getElem?_map, hz, List.getD_eq_getElem?_getD, hz]
  rfl

end
end

section
section
open Go.RowKit
set_option linter.unusedVariables false
set_option linter.unusedSimpArgs false

theorem optPick_calls (v1 v2 v : Value) (left : Bool) (hv : Hid ((if left then v1 else v2) = v)) (w : World) :
    Calls Tryz.prog 57 #[.agg #[v1, v2], .bool left] w fun e w' => e = .returned v ∧ Below w.heap.size w w' := by
  have hb : Below w.heap.size w (w.alloc (.cells #[v1, v2] 57)) := (Below.refl _ _).alloc (Nat.le_refl _) _
  have HB := Lib.hid hb
  clear hb
  cases left with
  | true =>
    have h := hv.out
    simp at h
    subst h
    go_enter Tryz.func57, Tryz.ntmps57
    go_wp2
    go_ret
    exact ⟨rfl, HB.out⟩
  | false =>
    have h := hv.out
    simp at h
    subst h
    go_enter Tryz.func57, Tryz.ntmps57
    go_wp2
    go_ret
    exact ⟨rfl, HB.out⟩

theorem cast_pair (i n j : Nat) : ((i * n + j : Nat) : Int) = (i : Int) * (n : Int) + (j : Int) := by rw [Int.natCast_add, Int.natCast_mul]

set_option maxHeartbeats 1000000 in
theorem place_calls (i j n pb c : Nat) (a : Option Addr) (w : World) (h : w.cell? ⟨pb, 0, none⟩ = some (.slice a n c)) (hi : i ≤ 1000) (hj : j ≤ 1000) (hn : n ≤ 1000) :
    Calls Tryz.prog 55 #[.int .i64 (i : Int), .int .i64 (j : Int), .pointer (some ⟨pb, 0, none⟩)] w fun e w' => e = .returned (.int .i64 ((i * n + j : Nat) : Int)) ∧ w = w' := by
  have hin : i * n ≤ 1000 * 1000 := Nat.mul_le_mul hi hn
  obtain ⟨m, hm⟩ : ∃ m : Int, (i : Int) * (n : Int) = m := ⟨_, rfl⟩
  have hm0 : 0 ≤ m ∧ m ≤ 1000000 := by
    have : ((i * n : Nat) : Int) = m := by rw [Int.natCast_mul]; exact hm
    omega
  have hw1 : IntKind.i64.wrap ((i : Int) * (n : Int)) = m := by rw [hm]; exact IntWalk.i64_in _ (by omega)
  have hw2 : IntKind.i64.wrap (m + (j : Int)) = m + (j : Int) := IntWalk.i64_in _ (by omega)
  have HE : Hid (((i * n + j : Nat) : Int) = m + (j : Int)) := Lib.hid (by rw [cast_pair, hm])
  obtain ⟨m0, m1⟩ := hm0
  have HM := Lib.hid hm
  clear hm
  go_enter Tryz.func55, Tryz.ntmps55
  go_wp2
  go_ret
  exact ⟨ret_int (by rw [HE.out]), rfl⟩

/-- one side of a node -/
def sideN (P : List Nd) (i : Nat) (left : Bool) : List Nat := if left then (P.getD i ([], [])).1 else (P.getD i ([], [])).2

/-- the node's slice on one side -/
theorem side_at {P : List Nd} {w : World} {lo hi : Nat} {ao : Option Addr} {c i : Nat} (left : Bool) (h : NodesZ w lo hi (.slice ao P.length c) (P.map upN)) (hu : Under P) (hs : ∀ nd ∈ P, nd.1.length ≤ 24 ∧ nd.2.length ≤ 24) (hi0 : i < P.length) :
    ∃ b off v1 v2 x y, ao = some ⟨b, off, none⟩ ∧ b < hi ∧ w.cell? ⟨b, off + i * 2, none⟩ = some v1 ∧ w.cell? ⟨b, off + i * 2 + 1, none⟩ = some v2 ∧ (if left then v1 else v2) = .slice x (sideN P i left).length y ∧ IntsZ w lo hi (.slice x (sideN P i left).length y) (upL (sideN P i left)) ∧ (sideN P i left).length ≤ 24 ∧ ∀ o ∈ sideN P i left, o < i := by
  obtain ⟨nd, hnd⟩ := lt_get hi0
  obtain ⟨b, off, cc, v1, v2, e, hbh, p1, p2, i1, i2⟩ := nodes_atP h hnd
  obtain ⟨q1, q2, q3⟩ := slice_inj e
  obtain ⟨a1, d1, rfl, _⟩ := ints_lenP i1
  obtain ⟨a2, d2, rfl, _⟩ := ints_lenP i2
  have h1 := hs nd (List.mem_of_getElem? hnd)
  have h2 := hu i nd hnd
  have h3 := getD_at hnd
  cases left with
  | true =>
    refine ⟨b, off, _, _, a1, d1, q1, hbh, p1, p2, ?_, ?_, ?_, ?_⟩
    · unfold sideN; rw [h3]; rfl
    · unfold sideN; rw [h3]; exact i1
    · unfold sideN; rw [h3]; exact h1.1
    · unfold sideN; rw [h3]; exact fun o ho => h2 o (Or.inl ho)
  | false =>
    refine ⟨b, off, _, _, a2, d2, q1, hbh, p1, p2, ?_, ?_, ?_, ?_⟩
    · unfold sideN; rw [h3]; rfl
    · unfold sideN; rw [h3]; exact i2
    · unfold sideN; rw [h3]; exact h1.2
    · unfold sideN; rw [h3]; exact fun o ho => h2 o (Or.inr ho)

set_option maxRecDepth 100000 in
set_option maxHeartbeats 4000000 in
theorem moves_calls (i j : Nat) (left : Bool) (A B : List Nd) (aa ab : Option Addr) (ca cb pa pp pb : Nat) (w : World) (lo hi lo' hi' : Nat) (hh : hi ≤ w.heap.size) (hh' : hi' ≤ w.heap.size) (ha : NodesZ w lo hi (.slice aa A.length ca) (A.map upN)) (hb : NodesZ w lo' hi' (.slice ab B.length cb) (B.map upN))
    (ka : w.cell? ⟨pa, 0, none⟩ = some (.slice aa A.length ca)) (kb : w.cell? ⟨pb, 0, none⟩ = some (.slice ab B.length cb)) (kp : w.cell? ⟨pp, 0, none⟩ = some (.func (.func 55) #[] #[.pointer (some ⟨pb, 0, none⟩)]))
    (hi0 : i < A.length) (hj : j < B.length) (hA : A.length ≤ 120) (hB : B.length ≤ 120) (uA : Under A) (uB : Under B) (sA : ∀ nd ∈ A, nd.1.length ≤ 24 ∧ nd.2.length ≤ 24) (sB : ∀ nd ∈ B, nd.1.length ≤ 24 ∧ nd.2.length ≤ 24) :
    Calls Tryz.prog 56 #[.int .i64 (i : Int), .int .i64 (j : Int), .bool left, .pointer (some ⟨pa, 0, none⟩), .pointer (some ⟨pp, 0, none⟩), .pointer (some ⟨pb, 0, none⟩)] w fun e w' => ∃ a c, e = .returned (.slice a (sumL B.length i j (sideN A i left) (sideN B j left)).length c) ∧
      OwnI w' w.heap.size (.slice a (sumL B.length i j (sideN A i left) (sideN B j left)).length c) (upL (sumL B.length i j (sideN A i left) (sideN B j left))) ∧ Below w.heap.size w w' := by
  obtain ⟨iI, hiI, hzI0, hzI1, hzI2⟩ := info_parts infoIntA
  obtain ⟨b1, o1, v1, v2, x1, y1, rfl, _, p1, p2, e1, i1, n1, l1⟩ := side_at left ha uA sA hi0
  obtain ⟨b2, o2, u1, u2, x2, y2, rfl, _, r1, r2, e2, i2, n2, l2⟩ := side_at left hb uB sB hj
  obtain ⟨L1, hL1⟩ : ∃ L, sideN A i left = L := ⟨_, rfl⟩
  obtain ⟨L2, hL2⟩ : ∃ L, sideN B j left = L := ⟨_, rfl⟩
  rw [hL1] at e1 i1 n1 l1 ⊢
  rw [hL2] at e2 i2 n2 l2 ⊢
  have CO1 := Lib.hid fun (W : World) => optPick_calls v1 v2 (.slice x1 L1.length y1) left (Lib.hid e1) W
  have CO2 := Lib.hid fun (W : World) => optPick_calls u1 u2 (.slice x2 L2.length y2) left (Lib.hid e2) W
  have HL1 : Hid (∀ o ∈ L1, o < A.length) := Lib.hid (fun o ho => by have := l1 o ho; omega)
  have HL2 : Hid (∀ o ∈ L2, o < B.length) := Lib.hid (fun o ho => by have := l2 o ho; omega)
  have I1 := Lib.hid i1
  have I2 := Lib.hid i2
  have g0 : (0 : Int) ≤ i := by omega
  have g1 : (i : Int) < A.length := by omega
  have g2 : (0 : Int) ≤ j := by omega
  have g3 : (j : Int) < B.length := by omega
  clear e1 e2 i1 i2 l1 l2 hL1 hL2 ha hb uA uB sA sB
  go_enter Tryz.func56, Tryz.ntmps56
  go_wp2_with fail
  refine (CO1.out _).mono ?_
  rintro e wo ⟨rfl, hbo⟩
  have HBO := Lib.hid hbo
  have kb1 := kb
  have kp1 := kp
  have hsw := hbo.size
  clear hbo CO1
  go_wp2
  go_loopw [10, 22] (fun v t wr => ∃ (k m : Nat) (a : Option Addr) (c : Nat), k ≤ L1.length ∧ t = .int .i64 k ∧ v = .slice a m c ∧ Hid (m = ((L1.take k).map (fun o => o * B.length + j)).length) ∧ Hid (OwnI wr w.heap.size (.slice a m c) (upL ((L1.take k).map (fun o => o * B.length + j)))) ∧ Hid (RowKit.Below w.heap.size w wr) ∧ w.heap.size ≤ wr.heap.size) (fun _ i _ => L1.length - (intOf i).toNat)
  case atStart => exact ⟨0, 0, none, 0, Nat.zero_le _, rfl, rfl, Lib.hid (by simp), Lib.hid (OwnI.nil _ _), HBO, hsw⟩
  case round =>
    skip
    obtain ⟨k, m, a, c, hk, rfl, rfl, hm, ho, hbw, hsz⟩ := hrel
    by_cases hlt : k < L1.length
    · obtain ⟨x, hx⟩ := lt_get hlt
      have hxn : x < A.length := HL1.out x (List.mem_of_getElem? hx)
      have kbr := (bcell hbw.out _ _ (block_of_cell kb1)).trans kb1
      have kpr := (bcell hbw.out _ _ (block_of_cell kp1)).trans kp1
      obtain ⟨bx, ox, hxa, _, hxc⟩ := ints_atP ((I1.out).below hbw.out (by omega)) hx
      subst hxa
      have k0 : (0 : Int) ≤ k := by omega
      have k1 : (k : Int) < L1.length := by omega
      have hks : (upL ((L1.take k).map (fun o => o * B.length + j))).length ≤ 60 := by rw [upL_len]; simp only [List.length_append, List.length_map, List.length_take]; omega
      have CP := Lib.hid (place_calls x j B.length pb cb _ wr kbr (by omega) (by omega) (by omega))
      obtain ⟨PL, hPL⟩ : ∃ l, (L1.take k).map (fun o => o * B.length + j) = l := ⟨_, rfl⟩
      obtain ⟨z, hz⟩ : ∃ z, x * B.length + j = z := ⟨_, rfl⟩
      rw [hPL] at ho hks
      rw [hz] at CP
      have HPL := Lib.hid hPL
      have HZ := Lib.hid hz
      have HX := Lib.hid hx
      clear hx hPL hz
      go_wp2_with (first
        | (go_at_call 55; refine CP.out.mono ?_; rintro e w' ⟨rfl, rfl⟩)
        | (at_builtin; refine wpList_append_own_at _ rfl _ _ 55 rfl w.heap.size 3 iI (.int .i64 0) 1 8 Tryz.underlying55 hiI hzI0 hzI1 hzI2 rfl (by decide) _ _ _ rfl (World.ownsRow.alloc ho.out _) ⟨wr.heap.size, 0, none⟩ 1 1 [.int .i64 (z : Int)] rfl rfl ?e1 ?e2 ?e3 ?e4 ?e5 ?_))
      case e1 => exact World.news_of_block (heap_alloc_new _ _)
      case e2 => first | rfl | (intro u hu; simp at hu; subst hu; rfl)
      case e3 => unfold maxLen; omega
      case e4 => omega
      case e5 => simp; omega
      intro v6 w6 hown6 hgrow6 hnil6 hat6
      have hal : RowKit.Below wr.heap.size wr (wr.alloc (.cells #[.int .i64 (z : Int)] 3)) := (RowKit.Below.refl _ _).alloc (Nat.le_refl _) _
      have hol := ho.out.lt
      have O6 : OwnI w6 w.heap.size v6 (upL ((L1.take (k + 1)).map (fun o => o * B.length + j))) := by
        have e : (L1.take (k + 1)).map (fun o => o * B.length + j) = PL ++ [z] := by
          rw [take_snoc' HX.out, List.map_append, ← HPL.out, ← HZ.out]
          first | rfl | (rw [← List.append_assoc]; rfl)
        rw [e, upL_snoc]
        unfold OwnI
        rw [List.map_append, List.length_append]
        exact hown6
      obtain ⟨a6, c6, hv6⟩ := O6.form
      have hm6 : (upL ((L1.take (k + 1)).map (fun o => o * B.length + j))).length = m + 1 := by
        rw [upL_len]
        have := hm.out
        simp only [List.length_append, List.length_map, List.length_take] at this ⊢
        omega
      rw [hm6] at hv6
      subst hv6
      have HO6 := Lib.hid O6
      have hb6 : RowKit.Below w.heap.size wr w6 := (hal.mono hsz).grown hgrow6 (by simp; omega) (fun g e => (hol g e).1)
      have HB6 := Lib.hid (hbw.out.trans (hb6.mono (Nat.le_refl _)))
      have hsz6 : w.heap.size ≤ w6.heap.size := by have := hb6.size; omega
      have HM6 : Hid (m + 1 = ((L1.take (k + 1)).map (fun o => o * B.length + j)).length) := Lib.hid (by rw [← hm6, upL_len])
      clear hown6 hgrow6 hnil6 hat6 hal hol O6 hm6 hb6 ho hbw CP hm kbr kpr hks hxc
      go_wp2
      go_roundw
      case rel => exact ⟨k + 1, m + 1, a6, c6, by omega, by go_num, rfl, HM6, HO6, HB6, hsz6⟩
      case measure => first | (simp [intOf]; done) | (simp [intOf]; omega)
    · have hke : k = L1.length := by omega
      subst hke
      rw [List.take_length] at ho hm
      have pa1 := (bcell hbw.out _ _ (block_of_cell kb)).trans kb
      have r1' := (bcell hbw.out _ _ (block_of_cell r1)).trans r1
      have r2' := (bcell hbw.out _ _ (block_of_cell r2)).trans r2
      have HBW := hbw
      obtain ⟨W1, hW1⟩ : ∃ W, W = wr := ⟨_, rfl⟩
      subst hW1
      go_wp2_with fail
      refine (CO2.out _).mono ?_
      rintro e wo2 ⟨rfl, hbo2⟩
      have HO2 := Lib.hid (ho.out.below hbo2)
      have HB2 := Lib.hid (HBW.out.trans (hbo2.mono hsz))
      have kb2 := kb
      have kp2 := kp
      have hs2 := hbo2.size
      clear ho hbw hbo2 CO2 HBW
      go_wp2
      go_loopw [10, 41] (fun v t wr => ∃ (k m : Nat) (a : Option Addr) (c : Nat), k ≤ L2.length ∧ t = .int .i64 k ∧ v = .slice a m c ∧ Hid (m = (L1.map (fun o => o * B.length + j) ++ (L2.take k).map (fun o => i * B.length + o)).length) ∧ Hid (OwnI wr w.heap.size (.slice a m c) (upL (L1.map (fun o => o * B.length + j) ++ (L2.take k).map (fun o => i * B.length + o)))) ∧ Hid (RowKit.Below w.heap.size w wr) ∧ w.heap.size ≤ wr.heap.size) (fun _ i _ => L2.length - (intOf i).toNat)
      case atStart => exact ⟨0, m, a, c, Nat.zero_le _, rfl, rfl, Lib.hid (by rw [List.take_zero, List.map_nil, List.append_nil]; exact hm.out), Lib.hid (by rw [List.take_zero, List.map_nil, List.append_nil]; exact HO2.out), HB2, by omega⟩
      case round =>
        skip
        obtain ⟨k, m, a, c, hk, rfl, rfl, hm, ho, hbw, hsz⟩ := hrel
        by_cases hlt : k < L2.length
        · obtain ⟨x, hx⟩ := lt_get hlt
          have hxn : x < B.length := HL2.out x (List.mem_of_getElem? hx)
          have kbr := (bcell hbw.out _ _ (block_of_cell kb2)).trans kb2
          have kpr := (bcell hbw.out _ _ (block_of_cell kp2)).trans kp2
          obtain ⟨bx, ox, hxa, _, hxc⟩ := ints_atP ((I2.out).below hbw.out (by omega)) hx
          subst hxa
          have k0 : (0 : Int) ≤ k := by omega
          have k1 : (k : Int) < L2.length := by omega
          have hks : (upL (L1.map (fun o => o * B.length + j) ++ (L2.take k).map (fun o => i * B.length + o))).length ≤ 60 := by rw [upL_len]; simp only [List.length_append, List.length_map, List.length_take]; omega
          have CP := Lib.hid (place_calls i x B.length pb cb _ wr kbr (by omega) (by omega) (by omega))
          obtain ⟨PL, hPL⟩ : ∃ l, L1.map (fun o => o * B.length + j) ++ (L2.take k).map (fun o => i * B.length + o) = l := ⟨_, rfl⟩
          obtain ⟨z, hz⟩ : ∃ z, i * B.length + x = z := ⟨_, rfl⟩
          rw [hPL] at ho hks
          rw [hz] at CP
          have HPL := Lib.hid hPL
          have HZ := Lib.hid hz
          have HX := Lib.hid hx
          clear hx hPL hz
          go_wp2_with (first
            | (go_at_call 55; refine CP.out.mono ?_; rintro e w' ⟨rfl, rfl⟩)
            | (at_builtin; refine wpList_append_own_at _ rfl _ _ 55 rfl w.heap.size 3 iI (.int .i64 0) 1 8 Tryz.underlying55 hiI hzI0 hzI1 hzI2 rfl (by decide) _ _ _ rfl (World.ownsRow.alloc ho.out _) ⟨wr.heap.size, 0, none⟩ 1 1 [.int .i64 (z : Int)] rfl rfl ?e1 ?e2 ?e3 ?e4 ?e5 ?_))
          case e1 => exact World.news_of_block (heap_alloc_new _ _)
          case e2 => first | rfl | (intro u hu; simp at hu; subst hu; rfl)
          case e3 => unfold maxLen; omega
          case e4 => omega
          case e5 => simp; omega
          intro v6 w6 hown6 hgrow6 hnil6 hat6
          have hal : RowKit.Below wr.heap.size wr (wr.alloc (.cells #[.int .i64 (z : Int)] 3)) := (RowKit.Below.refl _ _).alloc (Nat.le_refl _) _
          have hol := ho.out.lt
          have O6 : OwnI w6 w.heap.size v6 (upL (L1.map (fun o => o * B.length + j) ++ (L2.take (k + 1)).map (fun o => i * B.length + o))) := by
            have e : L1.map (fun o => o * B.length + j) ++ (L2.take (k + 1)).map (fun o => i * B.length + o) = PL ++ [z] := by
              rw [take_snoc' HX.out, List.map_append, ← HPL.out, ← HZ.out]
              first | rfl | (rw [← List.append_assoc]; rfl)
            rw [e, upL_snoc]
            unfold OwnI
            rw [List.map_append, List.length_append]
            exact hown6
          obtain ⟨a6, c6, hv6⟩ := O6.form
          have hm6 : (upL (L1.map (fun o => o * B.length + j) ++ (L2.take (k + 1)).map (fun o => i * B.length + o))).length = m + 1 := by
            rw [upL_len]
            have := hm.out
            simp only [List.length_append, List.length_map, List.length_take] at this ⊢
            omega
          rw [hm6] at hv6
          subst hv6
          have HO6 := Lib.hid O6
          have hb6 : RowKit.Below w.heap.size wr w6 := (hal.mono hsz).grown hgrow6 (by simp; omega) (fun g e => (hol g e).1)
          have HB6 := Lib.hid (hbw.out.trans (hb6.mono (Nat.le_refl _)))
          have hsz6 : w.heap.size ≤ w6.heap.size := by have := hb6.size; omega
          have HM6 : Hid (m + 1 = (L1.map (fun o => o * B.length + j) ++ (L2.take (k + 1)).map (fun o => i * B.length + o)).length) := Lib.hid (by rw [← hm6, upL_len])
          clear hown6 hgrow6 hnil6 hat6 hal hol O6 hm6 hb6 ho hbw CP hm kbr kpr hks hxc
          go_wp2
          go_roundw
          case rel => exact ⟨k + 1, m + 1, a6, c6, by omega, by go_num, rfl, HM6, HO6, HB6, hsz6⟩
          case measure => first | (simp [intOf]; done) | (simp [intOf]; omega)
        · have hke : k = L2.length := by omega
          subst hke
          rw [List.take_length] at ho hm
          go_wp2
          go_ret
          have e := hm.out
          subst e
          exact ⟨a, c, rfl, ho.out, hbw.out⟩
end

section
open Go.RowKit
set_option linter.unusedVariables false
set_option linter.unusedSimpArgs false

set_option maxRecDepth 100000 in
set_option maxHeartbeats 4000000 in
theorem sumNodes_calls (A B : List Nd) (aa ab : Option Addr) (ca cb : Nat) (w : World) (lo hi lo' hi' : Nat) (hh : hi ≤ w.heap.size) (hh' : hi' ≤ w.heap.size) (ha : NodesZ w lo hi (.slice aa A.length ca) (A.map upN)) (hb : NodesZ w lo' hi' (.slice ab B.length cb) (B.map upN))
    (hA : A.length ≤ 120) (hB : B.length ≤ 120) (uA : Under A) (uB : Under B) (sA : ∀ nd ∈ A, nd.1.length ≤ 24 ∧ nd.2.length ≤ 24) (sB : ∀ nd ∈ B, nd.1.length ≤ 24 ∧ nd.2.length ≤ 24) :
    Calls Tryz.prog 38 #[.slice aa A.length ca, .slice ab B.length cb] w fun e w' => ∃ g vs, e = .returned (.slice (some ⟨g, 0, none⟩) (A.length * B.length) (A.length * B.length)) ∧ RowZ w' w.heap.size g (A.length * B.length) vs ((sumN A B).map upN) (A.length * B.length) ∧ Below w.heap.size w w' := by
  obtain ⟨iN, hiN, hzN0, hzN1, hzN2⟩ := info_parts infoNodeA
  have hAB : A.length * B.length ≤ 120 * 120 := Nat.mul_le_mul hA hB
  have hmul := mul_cast (m := A.length) (n := B.length) (by omega)
  have CM := Lib.hid fun (i j : Nat) (left : Bool) (pa pp pb : Nat) (W : World) (hW : Below w.heap.size w W) ka kb kp hi0 hj => moves_calls i j left A B aa ab ca cb pa pp pb W lo hi lo' hi' (Nat.le_trans hh hW.size) (Nat.le_trans hh' hW.size) (ha.below hW hh) (hb.below hW hh') ka kb kp hi0 hj hA hB uA uB sA sB
  have HSN := Lib.hid fun (i j : Nat) (hi : i < A.length) (hj : j < B.length) => sumN_at hi hj
  clear ha hb uA uB sA sB
  go_enter Tryz.func38, Tryz.ntmps38
  go_wp2_with (at_make; refine wpList_make_full _ rfl _ _ 24 rfl w.heap.size 57 iN (.agg #[.slice none 0 0, .slice none 0 0]) 2 Tryz.underlying24 hiN hzN0 hzN1 _ _ _ _ (A.length * B.length) rfl rfl ?z1 ?z2 ?z3 ?z4 ?z5 ?_; (go_loud (first | rfl | (simp; done))); (go_loud (first | rfl | (simp; done))); (go_loud (clear hmul; rw [hzN2]; omega)); (go_loud (clear hmul; unfold maxLen; omega)); (go_loud (clear hmul; first | (simp; done) | (simp; omega))); intro w5 hown hgr; clear hmul; have hz3 : (((w.alloc (.cells #[.slice aa A.length ca] 24)).alloc (.cells #[.slice ab B.length cb] 24)).alloc (.cells #[.func (.func 55) #[] #[.pointer (some ⟨w.heap.size + 1, 0, none⟩)]] 78)).heap.size = w.heap.size + 3 := (by go_loud (simp)); have hb5 : Below (w.heap.size + 3) (((w.alloc (.cells #[.slice aa A.length ca] 24)).alloc (.cells #[.slice ab B.length cb] 24)).alloc (.cells #[.func (.func 55) #[] #[.pointer (some ⟨w.heap.size + 1, 0, none⟩)]] 78)) w5 := (by go_loud (rw [← hz3]; exact (Below.refl _ _).grown hgr (Nat.le_refl _) (fun k hk => by cases hk))); have kf : w5.cell? ⟨w.heap.size, 0, none⟩ = some (.slice aa A.length ca) := (bcell hb5 _ _ (by omega)).trans (by go_loud (go_simp)); have kg : w5.cell? ⟨w.heap.size + 1, 0, none⟩ = some (.slice ab B.length cb) := (bcell hb5 _ _ (by omega)).trans (by go_loud (go_simp)); have kp : w5.cell? ⟨w.heap.size + 1 + 1, 0, none⟩ = some (.func (.func 55) #[] #[.pointer (some ⟨w.heap.size + 1, 0, none⟩)]) := (bcell hb5 _ _ (by omega)).trans (by go_loud (go_simp)))
  rw [hz3] at hown
  have HR := Lib.hid (RowZ.made (F := (sumN A B).map upN) hown)
  have HB5 : Hid (Below w.heap.size w w5) := Lib.hid ((((((Below.refl _ _).alloc (Nat.le_refl _) _).alloc (by simp) _).alloc (by simp; omega) _).trans (hb5.mono (by omega))))
  have hgw := (World.ownsRow.lt hown _ rfl).2
  clear hown hgr hb5 hz3
  go_wp2
  go_loopw [20] (fun t wr => ∃ (i : Nat) (vs : List (Value × Value)), i ≤ A.length ∧ t = .int .i64 i ∧ Hid (RowZ wr w.heap.size (w.heap.size + 3) (A.length * B.length) vs ((sumN A B).map upN) (i * B.length)) ∧ Hid (Below w.heap.size w wr) ∧ Hid (wr.cell? ⟨w.heap.size, 0, none⟩ = some (.slice aa A.length ca) ∧ wr.cell? ⟨w.heap.size + 1, 0, none⟩ = some (.slice ab B.length cb) ∧ wr.cell? ⟨w.heap.size + 1 + 1, 0, none⟩ = some (.func (.func 55) #[] #[.pointer (some ⟨w.heap.size + 1, 0, none⟩)]))) (fun t _ => A.length - (intOf t).toNat)
  case atStart => exact ⟨0, _, Nat.zero_le _, rfl, by rw [Nat.zero_mul]; exact HR, HB5, Lib.hid ⟨kf, kg, kp⟩⟩
  case round =>
    obtain ⟨i, vs, hi0, rfl, hr, hbw, hc⟩ := hrel
    clear HR HB5 kf kg kp
    obtain ⟨kf, kg, kp⟩ := hc.out
    by_cases hlt : i < A.length
    · have i0 : (0 : Int) ≤ i := by omega
      have i1 : (i : Int) < A.length := by omega
      obtain ⟨W0, hW0⟩ : ∃ W, W = wr := ⟨_, rfl⟩
      subst hW0
      go_wp2
      go_loopw [25] (fun t wr => ∃ (j : Nat) (vs : List (Value × Value)), j ≤ B.length ∧ t = .int .i64 j ∧ Hid (RowZ wr w.heap.size (w.heap.size + 3) (A.length * B.length) vs ((sumN A B).map upN) (i * B.length + j)) ∧ Hid (RowKit.Below w.heap.size w wr) ∧ Hid (wr.cell? ⟨w.heap.size, 0, none⟩ = some (.slice aa A.length ca) ∧ wr.cell? ⟨w.heap.size + 1, 0, none⟩ = some (.slice ab B.length cb) ∧ wr.cell? ⟨w.heap.size + 1 + 1, 0, none⟩ = some (.func (.func 55) #[] #[.pointer (some ⟨w.heap.size + 1, 0, none⟩)]))) (fun t _ => B.length - (intOf t).toNat)
      case atStart => exact ⟨0, vs, Nat.zero_le _, rfl, hr, hbw, hc⟩
      case round =>
        clear hr hbw hc kf kg kp
        obtain ⟨j, vs, hj0, rfl, hr, hbw, hc⟩ := hrel
        obtain ⟨kf, kg, kp⟩ := hc.out
        by_cases hlt2 : j < B.length
        · have j0 : (0 : Int) ≤ j := by omega
          have j1 : (j : Int) < B.length := by omega
          have hpl := pair_lt hlt hlt2
          have hnd := HSN.out i j hlt hlt2
          have CP := Lib.hid (place_calls i j B.length (w.heap.size + 1) cb ab wr kg (by omega) (by omega) (by omega))
          have CL := Lib.hid (CM.out i j true w.heap.size (w.heap.size + 1 + 1) (w.heap.size + 1) wr hbw.out kf kg kp hlt hlt2)
          have CR := Lib.hid fun (W : World) (hW : RowKit.Below wr.heap.size wr W) => CM.out i j false w.heap.size (w.heap.size + 1 + 1) (w.heap.size + 1) W (hbw.out.trans (hW.mono hbw.out.size)) ((bcell hW _ _ (block_of_cell kf)).trans kf) ((bcell hW _ _ (block_of_cell kg)).trans kg) ((bcell hW _ _ (block_of_cell kp)).trans kp) hlt hlt2
          obtain ⟨q, hq⟩ : ∃ q, i * B.length + j = q := ⟨_, rfl⟩
          rw [hq] at CP hpl hnd hr
          have HQ := Lib.hid hq
          have HND := Lib.hid hnd
          obtain ⟨LL, hLL⟩ : ∃ l, sumL B.length i j (sideN A i true) (sideN B j true) = l := ⟨_, rfl⟩
          obtain ⟨LR, hLR⟩ : ∃ l, sumL B.length i j (sideN A i false) (sideN B j false) = l := ⟨_, rfl⟩
          rw [hLL] at CL
          rw [hLR] at CR
          have HSA : Hid (sumAt A B i j = (LL, LR)) := Lib.hid (by rw [← hLL, ← hLR]; rfl)
          clear hq hnd hLL hLR
          have hgw := (World.ownsRow.lt hr.out.row (w.heap.size + 3) rfl).2
          have hsw := hbw.out.size
          go_wp2_with fail
          refine CP.out.mono ?_
          rintro e w' ⟨rfl, rfl⟩
          go_wp2_with fail
          refine CL.out.mono ?_
          rintro e wl ⟨al, cl, rfl, hol, hbl⟩
          have C3 := Lib.hid (CR.out wl hbl)
          have HOL := Lib.hid hol
          have HBL := Lib.hid hbl
          clear hol hbl CL CR CP
          go_wp2_with fail
          refine C3.out.mono ?_
          rintro e w2 ⟨ar, cr, rfl, hor, hbr⟩
          have hb2 : RowKit.Below wr.heap.size wr w2 := HBL.out.trans (hbr.mono HBL.out.size)
          have hs2 := hb2.size
          have hsl := HBL.out.size
          have R2 := hr.out.below hb2
          have X1 : IntsX w2 (w.heap.size + 3) (.slice al LL.length cl) (upL LL) := ⟨wr.heap.size, w2.heap.size, Nat.le_refl _, Or.inl hgw, (HOL.out.below hbr).ints⟩
          have X2 : IntsX w2 (w.heap.size + 3) (.slice ar LR.length cr) (upL LR) := ⟨wl.heap.size, w2.heap.size, Nat.le_refl _, Or.inl (by omega), hor.ints⟩
          obtain ⟨po, hpo, m1, m2, mf1, mf2⟩ := R2.cells hpl
          have ho : Only w2 ((w2.setCell ⟨w.heap.size + 3, q * 2, none⟩ (.slice al LL.length cl)).setCell ⟨w.heap.size + 3, q * 2 + 1, none⟩ (.slice ar LR.length cr)) (fun b => b = w.heap.size + 3) := (Only.of_set (F := fun b => b = w.heap.size + 3) (p := ⟨w.heap.size + 3, q * 2, none⟩) _ rfl).trans (Only.of_set (F := fun b => b = w.heap.size + 3) (p := ⟨w.heap.size + 3, q * 2 + 1, none⟩) _ rfl) (fun _ _ h => h)
          have R3 := Lib.hid (R2.set (k := q) (nd := upN (LL, LR)) (p := (.slice al LL.length cl, .slice ar LR.length cr)) hpl (by rw [List.getElem?_map, HND.out, HSA.out]; rfl) X1 X2)
          have B3 := Lib.hid ((hbw.out.trans (hb2.mono hsw)).trans (ho.below (Nat.le_trans hsw hs2) (fun b e => by omega)))
          have kfb := (bcell hb2 _ _ (block_of_cell kf)).trans kf
          have kgb := (bcell hb2 _ _ (block_of_cell kg)).trans kg
          have kpb := (bcell hb2 _ _ (block_of_cell kp)).trans kp
          have hot : ∀ b, b ≠ w.heap.size + 3 → ((w2.setCell ⟨w.heap.size + 3, q * 2, none⟩ (.slice al LL.length cl)).setCell ⟨w.heap.size + 3, q * 2 + 1, none⟩ (.slice ar LR.length cr)).cell? ⟨b, 0, none⟩ = w2.cell? ⟨b, 0, none⟩ := fun b hb => (World.cell?_setCell_other _ _ _ _ (fun e => by injection e with e _ _; exact hb e.symm)).trans (World.cell?_setCell_other _ _ _ _ (fun e => by injection e with e _ _; exact hb e.symm))
          have K3 := Lib.hid (And.intro ((hot w.heap.size (by omega)).trans kfb) (And.intro ((hot (w.heap.size + 1) (by omega)).trans kgb) ((hot (w.heap.size + 1 + 1) (by omega)).trans kpb)))
          have q0 : (0 : Int) ≤ q := by omega
          have q1 : (q : Int) < (A.length : Int) * (B.length : Int) := by rw [← Int.natCast_mul]; omega
          have HQ2 : Hid (i * B.length + (j + 1) = q + 1) := Lib.hid (by rw [← HQ.out]; rfl)
          clear hor hbr hb2 R2 X1 X2 ho hot kfb kgb kpb HOL HBL C3 hr hbw hc hpo
          go_wp2
          go_roundw
          case rel => exact ⟨j + 1, _, by omega, by go_num, by rw [HQ2.out]; exact R3, B3, K3⟩
          case measure => first | (simp [intOf]; done) | (simp [intOf]; omega)
        · have hje : j = B.length := by omega
          subst hje
          have HE : Hid ((i + 1) * B.length = i * B.length + B.length) := Lib.hid (Nat.succ_mul _ _)
          clear CM HSN
          go_wp2
          go_roundw
          case rel => exact ⟨i + 1, vs, by omega, by go_num, by rw [HE.out]; exact hr, hbw, hc⟩
          case measure => first | (simp [intOf]; done) | (simp [intOf]; omega)
    · have hie : i = A.length := by omega
      subst hie
      clear CM HSN
      go_wp2
      go_ret
      exact ⟨_, vs, rfl, hr.out, hbw.out⟩
end

section
open Go.RowKit
set_option linter.unusedVariables false
set_option linter.unusedSimpArgs false

theorem sum_small {A B : List Nd} (ha : ∀ nd ∈ A, nd.1.length ≤ 24 ∧ nd.2.length ≤ 24) (hb : ∀ nd ∈ B, nd.1.length ≤ 24 ∧ nd.2.length ≤ 24) : ∀ nd ∈ sumN A B, nd.1.length ≤ 1000 ∧ nd.2.length ≤ 1000 := fun nd hnd => by
  have := sumN_small ha hb nd hnd
  omega

set_option maxRecDepth 100000 in
set_option maxHeartbeats 2000000 in
theorem sumI_calls (va vb : Value) (f g h : List Nz) (ok : Bool) (hok : Hid (sumOk f g = ok)) (hv : Hid (sumV f g = h)) (w : World) (lo hi lo' hi' : Nat) (hh : hi ≤ w.heap.size) (hh' : hi' ≤ w.heap.size) (hva : NodesZ w lo hi va f) (hvb : NodesZ w lo' hi' vb g) :
    Calls Tryz.prog 22 #[.agg #[va], .agg #[vb]] w fun e w' => ∃ a c vs, e = .returned (.tuple #[.agg #[.slice a h.length c], .bool ok]) ∧ OwnF w' w.heap.size (.slice a h.length c) vs h ∧ Below w.heap.size w w' := by
  have HB0 := Lib.hid fun o o' o'' => show Below w.heap.size w (((w.alloc o).alloc o').alloc o'') from (((Below.refl _ _).alloc (Nat.le_refl _) _).alloc (by simp) _).alloc (by simp; omega) _
  obtain ⟨r, hr⟩ : ∃ r, pairB f g = r := ⟨_, rfl⟩
  have CG := Lib.hid fun (W : World) (hW : Below w.heap.size w W) => goodPair_calls va vb f g r (Lib.hid hr) W lo hi lo' hi' (Nat.le_trans hh hW.size) (Nat.le_trans hh' hW.size) (hva.below hW hh) (hvb.below hW hh')
  have HVA := Lib.hid fun (W : World) (hW : Below w.heap.size w W) => hva.below hW hh
  have HVB := Lib.hid fun (W : World) (hW : Below w.heap.size w W) => hvb.below hW hh'
  obtain ⟨aa, ca, rfl⟩ : ∃ ao c, va = .slice ao f.length c := by obtain ⟨ao, c, e, _⟩ := hva; exact ⟨ao, c, e⟩
  obtain ⟨ab, cb, rfl⟩ : ∃ ao c, vb = .slice ao g.length c := by obtain ⟨ao, c, e, _⟩ := hvb; exact ⟨ao, c, e⟩
  clear hva hvb
  go_enter Tryz.func22, Tryz.ntmps22
  go_wp2_with fail
  refine (CG.out _ (HB0.out _ _ _)).mono ?_
  rintro e w4 ⟨rfl, hb4⟩
  have k1 : w4.cell? ⟨w.heap.size, 0, none⟩ = some (.slice aa f.length ca) := (bcell hb4 _ _ (by simp; omega)).trans (by go_simp)
  have k2 : w4.cell? ⟨w.heap.size + 1, 0, none⟩ = some (.slice ab g.length cb) := (bcell hb4 _ _ (by first | (simp; done) | (simp; omega))).trans (by go_simp)
  obtain ⟨d0, z0⟩ : BoxAt w4 (w.heap.size + 1 + 1) (.slice none 0 0) := BoxAt.below ⟨by go_simp, by go_simp⟩ hb4
  have HB4 := Lib.hid (Below.trans (HB0.out _ _ _) (hb4.mono (by simp; omega)))
  have hlt := block_of_cell d0
  clear hb4 CG
  cases r with
  | false =>
    obtain rfl : h = [] := by rw [← hv.out, sumV_no hr]
    obtain rfl : ok = false := by rw [← hok.out, sumOk_no hr]
    have B4 := Lib.hid (HB4.out.setCell (p := ⟨w.heap.size + 1 + 1, 0, none⟩) (by show w.heap.size ≤ w.heap.size + 1 + 1; omega) (.slice none 0 0))
    have hcr := World.cell?_setCell_same w4 ⟨w.heap.size + 1 + 1, 0, none⟩ (.slice none 0 0) d0
    go_wp2_with fail
    exact bodyPost_ret (v := .tuple #[.agg #[.slice none 0 0], .bool false]) (by simp [results, Tryz.results22, go_sem, hcr]) rfl ⟨none, 0, [], rfl, OwnF.nil _ _, B4.out⟩
  | true =>
    obtain ⟨hp1, hp2, hp3⟩ := (pairB_iff f g).1 hr
    obtain ⟨eA, uA, sA, pA, lA, mA⟩ := good_parts hp1
    obtain ⟨eB, uB, sB, pB, lB, mB⟩ := good_parts hp2
    have nA : (f.map downN).length = f.length := by simp
    have nB : (g.map downN).length = g.length := by simp
    have CN := Lib.hid fun (W : World) (hW : Below w.heap.size w W) => sumNodes_calls (f.map downN) (g.map downN) aa ab ca cb W lo hi lo' hi' (Nat.le_trans hh hW.size) (Nat.le_trans hh' hW.size) (by rw [nA, eA]; exact HVA.out W hW) (by rw [nB, eB]; exact HVB.out W hW) (by omega) (by omega) uA uB mA mB
    have hpos : 0 < f.length * g.length := Nat.mul_pos pA pB
    have hlen : (sumN (f.map downN) (g.map downN)).length = f.length * g.length := by rw [sumN_len, nA, nB]
    have CF := Lib.hid fun (W : World) (v : Value) (hz : NodesZ W 0 W.heap.size v ((sumN (f.map downN) (g.map downN)).map upN)) => formOf_calls v (sumN (f.map downN) (g.map downN)) h ok W 0 W.heap.size (Nat.le_refl _) hz (sumN_under uA uB) (by rw [hlen]; exact hpos) (sumN_reach uA uB sA sB) (by rw [hlen]; omega) (sum_small mA mB) (Lib.hid (by rw [← sumOk_yes hr]; exact hok.out)) (Lib.hid (by rw [← sumV_yes hr]; exact hv.out))
    rw [nA, nB] at CN
    have HLN := Lib.hid hlen
    have HK : Hid (w4.cell? ⟨w.heap.size + 1 + 1, 0, none⟩ = some (.slice none 0 0) ∧ w4.frozen? ⟨w.heap.size + 1 + 1, 0, none⟩ = false) := Lib.hid ⟨d0, z0⟩
    clear eA uA sA eB uB sB mA mB hlen hok hv hr hp1 hp2 hpos nA nB
    go_wp2_with fail
    refine (CN.out _ HB4.out).mono ?_
    rintro e w5 ⟨gg, vs, rfl, hrow, hb5⟩
    have C2 := Lib.hid (CF.out w5 _ (hrow.nodesZ (by rw [List.length_map, HLN.out])))
    have HB5 := Lib.hid (HB4.out.trans (hb5.mono HB4.out.size))
    have hx5 : BoxAt w5 (w.heap.size + 1 + 1) (.slice none 0 0) := BoxAt.below ⟨d0, z0⟩ hb5
    have hs5 := HB5.out.size
    have hl5 := hb5.size
    clear hrow hb5 CN CF
    go_wp2_with fail
    refine C2.out.mono ?_
    rintro e w6 ⟨a, c, vs6, rfl, ho6, hb6⟩
    obtain ⟨d6, z6⟩ : BoxAt w6 (w.heap.size + 1 + 1) (.slice none 0 0) := BoxAt.below hx5 hb6
    have HO : Hid (OwnF (w6.setCell ⟨w.heap.size + 1 + 1, 0, none⟩ (.slice a h.length c)) w.heap.size (.slice a h.length c) vs6 h) := Lib.hid ((ho6.setCell (by show w.heap.size + 1 + 1 < w5.heap.size; omega)).mono hs5)
    have HB6 : Hid (Below w.heap.size w (w6.setCell ⟨w.heap.size + 1 + 1, 0, none⟩ (.slice a h.length c))) := Lib.hid ((HB5.out.trans (hb6.mono hs5)).setCell (by show w.heap.size ≤ w.heap.size + 1 + 1; omega) _)
    have hcr := World.cell?_setCell_same w6 ⟨w.heap.size + 1 + 1, 0, none⟩ (.slice a h.length c) d6
    clear ho6 hb6 hx5 C2
    go_wp2_with fail
    exact bodyPost_ret (v := .tuple #[.agg #[.slice a h.length c], .bool ok]) (by simp [results, Tryz.results22, go_sem, hcr]) rfl ⟨a, c, vs6, rfl, HO.out, HB6.out⟩
end
end

section
section
open Go.RowKit
set_option linter.unusedVariables false
set_option linter.unusedSimpArgs false

theorem sumL_map (n i j : Nat) (a b : List Nat) (h : Nat → Nat) : (sumL n i j a b).map h = a.map (fun o => h (o * n + j)) ++ b.map (fun o => h (i * n + o)) := by
  unfold sumL
  rw [List.map_append, List.map_map, List.map_map]
  rfl

set_option maxRecDepth 100000 in
set_option maxHeartbeats 60000000 in
theorem l5Sum_calls (A B : List Nd) (aa ab : Option Addr) (ca cb : Nat) (w : World) (lo hi lo' hi' : Nat) (hh : hi ≤ w.heap.size) (hh' : hi' ≤ w.heap.size) (ha : NodesZ w lo hi (.slice aa A.length ca) (A.map upN)) (hb : NodesZ w lo' hi' (.slice ab B.length cb) (B.map upN))
    (hA : A.length ≤ 120) (hB : B.length ≤ 120) (pA : 0 < A.length) (pB : 0 < B.length) (uA : Under A) (uB : Under B) (sA : ∀ nd ∈ A, nd.1.length ≤ 24 ∧ nd.2.length ≤ 24) (sB : ∀ nd ∈ B, nd.1.length ≤ 24 ∧ nd.2.length ≤ 24) :
    Calls Tryz.prog 35 #[.agg #[.slice aa A.length ca], .agg #[.slice ab B.length cb]] w fun e w' => ∃ v, e = .returned (.agg #[v]) ∧ NodesZ w' w.heap.size w'.heap.size v ((formM (sumN A B)).map upN) ∧ Below w.heap.size w w' := by
  obtain ⟨iI, hiI, hzI0, hzI1, hzI2⟩ := info_parts infoIntA
  have HA := Lib.hid fun (W : World) (hW : Below w.heap.size w W) => ha.below hW hh
  have HB := Lib.hid fun (W : World) (hW : Below w.heap.size w W) => hb.below hW hh'
  have UA := Lib.hid uA
  have UB := Lib.hid uB
  have SA := Lib.hid sA
  have SB := Lib.hid sB
  have US := Lib.hid (sumN_under uA uB)
  have SL := Lib.hid (sumN_len A B)
  have SAT := Lib.hid fun (i j : Nat) (hi : i < A.length) (hj : j < B.length) => sumN_at hi hj
  have SSM := Lib.hid fun (i j : Nat) (hi : i < A.length) (hj : j < B.length) => sumAt_small sA sB hi hj
  have e0 : (((w.alloc (.cells #[.slice aa A.length ca] 26)).alloc (.cells #[.slice ab B.length cb] 26)).alloc (.cells #[.slice none 0 0] 26)).heap.size = w.heap.size + 3 := by simp
  have hst := BkAt.start (((w.alloc (.cells #[.slice aa A.length ca] 26)).alloc (.cells #[.slice ab B.length cb] 26)).alloc (.cells #[.slice none 0 0] 26))
  rw [e0] at hst
  have HST := Lib.hid hst
  have HB0 : Hid (Below w.heap.size w (((((w.alloc (.cells #[.slice aa A.length ca] 26)).alloc (.cells #[.slice ab B.length cb] 26)).alloc (.cells #[.slice none 0 0] 26)).alloc (.cells #[.slice none 0 0, .slice none 0 0] 68)).alloc (.cells #[] 3))) :=
    Lib.hid ((((((Below.refl _ _).alloc (Nat.le_refl _) _).alloc (by simp) _).alloc (by simp; omega) _).alloc (by simp; omega) _).alloc (by simp; omega) _)
  have hAB : A.length * B.length ≤ 120 * 120 := Nat.mul_le_mul hA hB
  clear ha hb uA uB sA sB hst e0
  go_enter Tryz.func35, Tryz.ntmps35
  go_wp2
  go_loopw [7, 8] (fun q t wr => ∃ (i p ga ca' : Nat) (vn vb : Value) (vs : List (Value × Value)), i ≤ A.length ∧ t = .int .i64 i ∧ q = .slice (some ⟨ga, 0, none⟩) p ca' ∧ Hid (p = i * B.length) ∧ Hid (BkAt (w.heap.size + 3) wr ((sumN A B).take p) ga ca' vn vb vs) ∧
      Hid (Below w.heap.size w wr) ∧ Hid (BoxAt wr (w.heap.size + 2) (.slice none 0 0)) ∧ wr.cell? ⟨w.heap.size, 0, none⟩ = some (.slice aa A.length ca) ∧ wr.cell? ⟨w.heap.size + 1, 0, none⟩ = some (.slice ab B.length cb)) (fun _ t _ => A.length - (intOf t).toNat)
  case atStart => exact ⟨0, 0, w.heap.size + 3 + 1, 0, _, _, _, Nat.zero_le _, rfl, rfl, Lib.hid (by omega), by rw [List.take_zero]; exact HST, HB0, Lib.hid ⟨by go_simp, by go_simp⟩, by go_simp, by go_simp⟩
  case round =>
    obtain ⟨i, p, ga, ca', vn, vb, vs, hi0, rfl, rfl, hp, hK, hbw, hx, kf, kg⟩ := hrel
    clear HST HB0
    by_cases hlt : i < A.length
    · have i0 : (0 : Int) ≤ i := by omega
      have i1 : (i : Int) < A.length := by omega
      obtain ⟨W0, hW0⟩ : ∃ W, W = wr := ⟨_, rfl⟩
      subst hW0
      have hpl : p ≤ 120 * 120 := by
        have h1 := hp.out
        have h2 : i * B.length ≤ A.length * B.length := Nat.mul_le_mul_right _ (by omega)
        omega
      go_wp2
      go_loopw [7, 9] (fun q t wr => ∃ (k p' ga ca' : Nat) (vn vb : Value) (vs : List (Value × Value)), k ≤ B.length ∧ t = .int .i64 k ∧ q = .slice (some ⟨ga, 0, none⟩) p' ca' ∧ Hid (p' = i * B.length + k) ∧ Hid (BkAt (w.heap.size + 3) wr ((sumN A B).take p') ga ca' vn vb vs) ∧
          Hid (RowKit.Below w.heap.size w wr) ∧ Hid (BoxAt wr (w.heap.size + 2) (.slice none 0 0)) ∧ wr.cell? ⟨w.heap.size, 0, none⟩ = some (.slice aa A.length ca) ∧ wr.cell? ⟨w.heap.size + 1, 0, none⟩ = some (.slice ab B.length cb)) (fun _ t _ => B.length - (intOf t).toNat)
      case atStart => exact ⟨0, p, ga, ca', vn, vb, vs, Nat.zero_le _, rfl, rfl, Lib.hid (by have := hp.out; omega), hK, hbw, hx, kf, kg⟩
      case round =>
        clear hp hK hbw hx kf kg hpl
        obtain ⟨k, p', ga, ca', vn, vb, vs, hk, rfl, rfl, hp, hK, hbw, hx, kf, kg⟩ := hrel
        by_cases hlt2 : k < B.length
        · have k0 : (0 : Int) ≤ k := by omega
          have k1 : (k : Int) < B.length := by omega
          have hpl : p' < A.length * B.length := by rw [hp.out]; exact pair_lt hlt hlt2
          obtain ⟨na, hna⟩ := lt_get hlt
          obtain ⟨nb, hnb⟩ := lt_get hlt2
          obtain ⟨b1, o1, x1, y1, x2, y2, q1, c1, c2, I1, I2⟩ := nodeS_at (HA.out wr hbw.out) hna
          obtain ⟨b2, o2, x3, y3, x4, y4, q2, c3, c4, I3, I4⟩ := nodeS_at (HB.out wr hbw.out) hnb
          have hlA := UA.out i na hna
          have hlB := UB.out k nb hnb
          have hsA := SA.out na (List.mem_of_getElem? hna)
          have hsB := SB.out nb (List.mem_of_getElem? hnb)
          have hnd := SAT.out i k hlt hlt2
          have hsm := SSM.out i k hlt hlt2
          have hse : sumAt A B i k = (sumL B.length i k na.1 nb.1, sumL B.length i k na.2 nb.2) := by unfold sumAt; rw [getD_at hna, getD_at hnb]
          rw [hse, ← hp.out] at hnd
          rw [hse] at hsm
          have hbs := hbw.out.size
          have hks := hK.out.size
          have htl : ((sumN A B).take p').length = p' := by rw [List.length_take, SL.out]; omega
          obtain ⟨P, hP⟩ : ∃ P, (sumN A B).take p' = P := ⟨_, rfl⟩
          have HTS := Lib.hid (take_snoc' hnd)
          have HTU := Lib.hid (under_take US.out p')
          rw [hP] at hK htl HTS HTU
          have HTL := Lib.hid htl
          obtain ⟨AT, hAT⟩ : ∃ f : Nat → Nat, (fun x => (addF [] P).2.getD x 0) = f := ⟨_, rfl⟩
          have HAT := Lib.hid fun (W : World) (hW : RowKit.Below wr.heap.size wr W) (x : Nat) (hx : x < p') => show W.cell? ⟨ga, x, none⟩ = some (.int .i64 ((AT x : Nat) : Int)) from by
            rw [← hAT]
            exact at_cell (hK.out.below hW) (by rw [htl]; exact hx)
          have HAE := Lib.hid hAT
          have HNA := Lib.hid hna
          have HNB := Lib.hid hnb
          have J1 := Lib.hid I1
          have J2 := Lib.hid I2
          have J3 := Lib.hid I3
          have J4 := Lib.hid I4
          have HlA := Lib.hid hlA
          have HlB := Lib.hid hlB
          have Hsm := Lib.hid hsm
          have HND := Lib.hid hnd
          have hga := hK.out.lt
          have HNF := Lib.hid hK.out.nf
          have bl1 := block_of_cell c1
          have bl2 := block_of_cell c2
          have bl3 := block_of_cell c3
          have bl4 := block_of_cell c4
          have blf := block_of_cell kf
          have blg := block_of_cell kg
          obtain ⟨W1, hW1⟩ : ∃ W, W = wr := ⟨_, rfl⟩
          subst hW1
          subst q1 q2
          clear hna hnb I1 I2 I3 I4 hlA hlB hnd hsm hse htl hP hAT
          have hz1 : (W1.alloc (.cells #[] 3)).heap.size = W1.heap.size + 1 := by simp
          have hla : RowKit.Below (W1.alloc (.cells #[] 3)).heap.size (W1.alloc (.cells #[] 3)) ((W1.alloc (.cells #[] 3)).alloc (.cells #[] 3)) := (RowKit.Below.refl _ _).alloc (Nat.le_refl _) _
          have HBE : Hid (RowKit.Below W1.heap.size W1 ((W1.alloc (.cells #[] 3)).alloc (.cells #[] 3))) := Lib.hid (((RowKit.Below.refl _ _).alloc (Nat.le_refl _) _).alloc (by simp) _)
          have HLE : Hid (OwnI ((W1.alloc (.cells #[] 3)).alloc (.cells #[] 3)) W1.heap.size (.slice (some ⟨W1.heap.size, 0, none⟩) 0 0) (upL (List.map (fun o => AT (o * B.length + k)) (List.take 0 na.1)))) := Lib.hid (by
            rw [List.take_zero]
            exact OwnI.below (World.ownsRow_lit (base := W1.heap.size) (e := 3) (size := 1) W1 #[] 0 (Nat.le_refl _) (by unfold maxLen; omega) rfl) hla)
          have HRE : Hid (OwnI ((W1.alloc (.cells #[] 3)).alloc (.cells #[] 3)) W1.heap.size (.slice (some ⟨W1.heap.size + 1, 0, none⟩) 0 0) []) := Lib.hid (by
            have h := World.ownsRow_lit (base := W1.heap.size) (e := 3) (size := 1) (W1.alloc (.cells #[] 3)) #[] 0 (by simp) (by unfold maxLen; omega) rfl
            rw [hz1] at h
            exact h)
          have HAPE : Hid (Apart (.slice (some ⟨W1.heap.size + 1, 0, none⟩) 0 0) (.slice (some ⟨W1.heap.size, 0, none⟩) 0 0)) := Lib.hid (fun g e1 e2 => by have := own_eqp e1; have := own_eqp e2; omega)
          have HSE : W1.heap.size + 2 ≤ ((W1.alloc (.cells #[] 3)).alloc (.cells #[] 3)).heap.size := by simp
          clear hla hz1
          go_wp2
          go_loopw [10, 12] (fun v t wr => ∃ (m len : Nat) (a : Option Addr) (c : Nat), m ≤ na.1.length ∧ t = .int .i64 m ∧ v = .slice a len c ∧ Hid (len = ((na.1.take m).map (fun o => AT (o * B.length + k))).length) ∧ Hid (OwnI wr W1.heap.size (.slice a len c) (upL ((na.1.take m).map (fun o => AT (o * B.length + k))))) ∧ Hid (RowKit.Below W1.heap.size W1 wr) ∧
            Hid (OwnI wr W1.heap.size (.slice (some ⟨W1.heap.size + 1, 0, none⟩) 0 0) []) ∧ Hid (Apart (.slice (some ⟨W1.heap.size + 1, 0, none⟩) 0 0) (.slice a len c)) ∧ W1.heap.size + 2 ≤ wr.heap.size) (fun _ t _ => na.1.length - (intOf t).toNat)
          case atStart => exact ⟨0, 0, some ⟨W1.heap.size, 0, none⟩, 0, Nat.zero_le _, rfl, rfl, Lib.hid (by simp), HLE, HBE, HRE, HAPE, HSE⟩
          case round =>
            obtain ⟨m, len, a, c, hm, rfl, rfl, hl, ho, hb1, hou, hap, hsz⟩ := hrel
            have kf' := (bcell hb1.out _ _ blf).trans kf
            have kg' := (bcell hb1.out _ _ blg).trans kg
            have cc' := (bcell hb1.out _ _ bl1).trans c1
            by_cases hlt3 : m < na.1.length
            · obtain ⟨o, hox⟩ := lt_get hlt3
              have hob := HlA.out o (Or.inl (List.mem_of_getElem? hox))
              obtain ⟨bx, ox, hxa, _, hxc⟩ := ints_atP (J1.out.below hb1.out (Nat.le_trans hh hbs)) hox
              subst hxa
              have g5 : W1.heap.size ≤ wr.heap.size + 1 := by omega
              obtain ⟨q, hq⟩ : ∃ q, o * B.length = q := ⟨_, rfl⟩
              have hidx : q + k < p' := by
                rw [hp.out, ← hq]
                have h5 : (o + 1) * B.length ≤ i * B.length := Nat.mul_le_mul_right _ (by omega)
                rw [Nat.add_mul] at h5
                omega
              have s0 : (0 : Int) ≤ (q : Int) + (k : Int) := by omega
              have s1 : (q : Int) + (k : Int) < p' := by omega
              have s2 : ((q : Int) + (k : Int)).toNat = q + k := by omega
              have hat := HAT.out wr hb1.out (q + k) hidx
              obtain ⟨z, hz⟩ : ∃ z, AT (q + k) = z := ⟨_, rfl⟩
              rw [hz] at hat
              have HZ : Hid ((fun o => AT (o * B.length + k)) o = z) := Lib.hid (by rw [← hz, ← hq])
              have m0 : (0 : Int) ≤ m := by omega
              have m1 : (m : Int) < na.1.length := by omega
              have o0 : (0 : Int) ≤ o := by omega
              have o1' : (o : Int) ≤ 120 := by omega
              have hll : (upL ((na.1.take m).map (fun o => AT (o * B.length + k)))).length ≤ 60 := by rw [upL_len]; simp only [List.length_append, List.length_map, List.length_take]; omega
              obtain ⟨PL, hPL⟩ : ∃ l, (na.1.take m).map (fun o => AT (o * B.length + k)) = l := ⟨_, rfl⟩
              rw [hPL] at ho hll
              have g3 : (upL PL).length + 1 ≤ maxLen := by unfold maxLen; omega
              have g4 : ((upL PL).length + 1) * 8 ≤ 140737488355328 := by omega
              have s3 : IntKind.i64.wrap ((q : Int) + (k : Int)) = (q : Int) + (k : Int) := IntWalk.i64_in _ (by omega)
              have hwm : IntKind.i64.wrap ((o : Int) * (B.length : Int)) = (q : Int) := by rw [← hq]; exact mulS_cast (Nat.le_trans (Nat.mul_le_mul (show o ≤ 120 by omega) hB) (by omega))
              have HPL := Lib.hid hPL
              have HOX := Lib.hid hox
              have HQ := Lib.hid hq
              clear hox hq hz hPL
              go_wp2_with (at_builtin; refine wpList_append_own_at _ rfl _ _ 55 rfl W1.heap.size 3 iI (.int .i64 0) 1 8 Tryz.underlying55 hiI hzI0 hzI1 hzI2 rfl (by decide) _ _ _ rfl (World.ownsRow.alloc ho.out _) ⟨wr.heap.size, 0, none⟩ 1 1 [.int .i64 (z : Int)] rfl rfl ?ea1 ?ea2 ?ea3 ?ea4 ?ea5 ?_)
              try (case ea1 => exact World.news_of_block (heap_alloc_new _ _))
              try (case ea2 => first | rfl | (intro u hu; simp at hu; subst hu; rfl))
              try (case ea3 => exact g3)
              try (case ea4 => exact g4)
              try (case ea5 => simp only [World.size_alloc]; exact g5)
              try (case ea5 => simpa using g5)
              intro v6 w6 hown6 hgrow6 hnil6 hat6
              clear hwm s3 s0 s1 s2
              have hal : RowKit.Below wr.heap.size wr (wr.alloc (.cells #[.int .i64 (z : Int)] 3)) := (RowKit.Below.refl _ _).alloc (Nat.le_refl _) _
              have hol := ho.out.lt
              have O6 : OwnI w6 W1.heap.size v6 (upL ((na.1.take (m + 1)).map (fun o => AT (o * B.length + k)))) := by
                have e : (na.1.take (m + 1)).map (fun o => AT (o * B.length + k)) = PL ++ [z] := by
                  rw [take_snoc' HOX.out, List.map_append, ← HPL.out]
                  rw [show [o].map (fun o => AT (o * B.length + k)) = [z] from by rw [List.map_singleton, HZ.out]]
                  try (first | rfl | rw [← List.append_assoc])
                rw [e, upL_snoc]
                unfold OwnI
                rw [List.map_append, List.length_append]
                exact hown6
              obtain ⟨a6, c6, hv6⟩ := O6.form
              have hm6 : (upL ((na.1.take (m + 1)).map (fun o => AT (o * B.length + k)))).length = len + 1 := by
                rw [upL_len]
                have := hl.out
                simp only [List.length_append, List.length_map, List.length_take] at this ⊢
                omega
              rw [hm6] at hv6
              subst hv6
              have HO6 := Lib.hid O6
              have ho6 : Only wr w6 (fun b => (Value.slice a len c).ownBlock = some b) := (Only.of_below (F := fun b => (Value.slice a len c).ownBlock = some b) hal).trans (Only.of_grown (F := fun b => (Value.slice a len c).ownBlock = some b) hgrow6 (fun g e => e)) (fun _ _ h => h)
              have HB6 := Lib.hid (hb1.out.trans (ho6.below (by omega) (fun g h => (hol g h).1)))
              have HU6 := Lib.hid (hou.out.only ho6 (fun g e1 e2 => hap.out g e1 e2))
              have HA6 : Hid (Apart (.slice (some ⟨W1.heap.size + 1, 0, none⟩) 0 0) (.slice a6 (len + 1) c6)) := Lib.hid (fun g e1 e2 => by
                rcases hat6 with h | h
                · exact hap.out g e1 (h ▸ e2)
                · rw [h] at e2
                  injection e2 with e2
                  have := hou.out.lt g e1
                  try simp at e2
                  omega)
              have hsz6 : W1.heap.size + 2 ≤ w6.heap.size := by have := ho6.size; omega
              have HM6 : Hid (len + 1 = ((na.1.take (m + 1)).map (fun o => AT (o * B.length + k))).length) := Lib.hid (by rw [← hm6, upL_len])
              clear hown6 hgrow6 hnil6 hat6 hal hol O6 hm6 ho6 ho hb1 hl hou hap hll hat hxc kf' kg' cc'
              go_wp2
              go_roundw
              case rel => exact ⟨m + 1, len + 1, a6, c6, by omega, by go_num, rfl, HM6, HO6, HB6, HU6, HA6, hsz6⟩
              case measure => first | (simp [intOf]; done) | (simp [intOf]; omega)
            · have hme : m = na.1.length := by omega
              subst hme
              rw [List.take_length] at ho hl
              go_wp2
              go_loopw [10, 13] (fun v t wr => ∃ (m len : Nat) (a : Option Addr) (c : Nat), m ≤ nb.1.length ∧ t = .int .i64 m ∧ v = .slice a len c ∧ Hid (len = (na.1.map (fun o => AT (o * B.length + k)) ++ (nb.1.take m).map (fun o => AT (i * B.length + o))).length) ∧ Hid (OwnI wr W1.heap.size (.slice a len c) (upL (na.1.map (fun o => AT (o * B.length + k)) ++ (nb.1.take m).map (fun o => AT (i * B.length + o))))) ∧ Hid (RowKit.Below W1.heap.size W1 wr) ∧
                Hid (OwnI wr W1.heap.size (.slice (some ⟨W1.heap.size + 1, 0, none⟩) 0 0) []) ∧ Hid (Apart (.slice (some ⟨W1.heap.size + 1, 0, none⟩) 0 0) (.slice a len c)) ∧ W1.heap.size + 2 ≤ wr.heap.size) (fun _ t _ => nb.1.length - (intOf t).toNat)
              case atStart => exact ⟨0, len, a, c, Nat.zero_le _, rfl, rfl, Lib.hid (by rw [List.take_zero, List.map_nil, List.append_nil]; exact hl.out), Lib.hid (by rw [List.take_zero, List.map_nil, List.append_nil]; exact ho.out), hb1, hou, hap, hsz⟩
              case round =>
                obtain ⟨m, len, a, c, hm, rfl, rfl, hl, ho, hb1, hou, hap, hsz⟩ := hrel
                have kf' := (bcell hb1.out _ _ blf).trans kf
                have kg' := (bcell hb1.out _ _ blg).trans kg
                have cc' := (bcell hb1.out _ _ bl3).trans c3
                by_cases hlt3 : m < nb.1.length
                · obtain ⟨o, hox⟩ := lt_get hlt3
                  have hob := HlB.out o (Or.inl (List.mem_of_getElem? hox))
                  obtain ⟨bx, ox, hxa, _, hxc⟩ := ints_atP (J3.out.below hb1.out (Nat.le_trans hh' hbs)) hox
                  subst hxa
                  have g5 : W1.heap.size ≤ wr.heap.size + 1 := by omega
                  obtain ⟨q, hq⟩ : ∃ q, i * B.length = q := ⟨_, rfl⟩
                  have hidx : q + o < p' := by
                    rw [hp.out, ← hq]
                    omega
                  have s0 : (0 : Int) ≤ (q : Int) + (o : Int) := by omega
                  have s1 : (q : Int) + (o : Int) < p' := by omega
                  have s2 : ((q : Int) + (o : Int)).toNat = q + o := by omega
                  have hat := HAT.out wr hb1.out (q + o) hidx
                  obtain ⟨z, hz⟩ : ∃ z, AT (q + o) = z := ⟨_, rfl⟩
                  rw [hz] at hat
                  have HZ : Hid ((fun o => AT (i * B.length + o)) o = z) := Lib.hid (by rw [← hz, ← hq])
                  have m0 : (0 : Int) ≤ m := by omega
                  have m1 : (m : Int) < nb.1.length := by omega
                  have o0 : (0 : Int) ≤ o := by omega
                  have o1' : (o : Int) ≤ 120 := by omega
                  have hll : (upL (na.1.map (fun o => AT (o * B.length + k)) ++ (nb.1.take m).map (fun o => AT (i * B.length + o)))).length ≤ 60 := by rw [upL_len]; simp only [List.length_append, List.length_map, List.length_take]; omega
                  obtain ⟨PL, hPL⟩ : ∃ l, na.1.map (fun o => AT (o * B.length + k)) ++ (nb.1.take m).map (fun o => AT (i * B.length + o)) = l := ⟨_, rfl⟩
                  rw [hPL] at ho hll
                  have g3 : (upL PL).length + 1 ≤ maxLen := by unfold maxLen; omega
                  have g4 : ((upL PL).length + 1) * 8 ≤ 140737488355328 := by omega
                  have s3 : IntKind.i64.wrap ((q : Int) + (o : Int)) = (q : Int) + (o : Int) := IntWalk.i64_in _ (by omega)
                  have hwm : IntKind.i64.wrap ((i : Int) * (B.length : Int)) = (q : Int) := by rw [← hq]; exact mulS_cast (Nat.le_trans (Nat.mul_le_mul (show i ≤ 120 by omega) hB) (by omega))
                  have HPL := Lib.hid hPL
                  have HOX := Lib.hid hox
                  have HQ := Lib.hid hq
                  clear hox hq hz hPL
                  go_wp2_with (at_builtin; refine wpList_append_own_at _ rfl _ _ 55 rfl W1.heap.size 3 iI (.int .i64 0) 1 8 Tryz.underlying55 hiI hzI0 hzI1 hzI2 rfl (by decide) _ _ _ rfl (World.ownsRow.alloc ho.out _) ⟨wr.heap.size, 0, none⟩ 1 1 [.int .i64 (z : Int)] rfl rfl ?eb1 ?eb2 ?eb3 ?eb4 ?eb5 ?_)
                  try (case eb1 => exact World.news_of_block (heap_alloc_new _ _))
                  try (case eb2 => first | rfl | (intro u hu; simp at hu; subst hu; rfl))
                  try (case eb3 => exact g3)
                  try (case eb4 => exact g4)
                  try (case eb5 => simp only [World.size_alloc]; exact g5)
                  try (case eb5 => simpa using g5)
                  intro v6 w6 hown6 hgrow6 hnil6 hat6
                  clear hwm s3 s0 s1 s2
                  have hal : RowKit.Below wr.heap.size wr (wr.alloc (.cells #[.int .i64 (z : Int)] 3)) := (RowKit.Below.refl _ _).alloc (Nat.le_refl _) _
                  have hol := ho.out.lt
                  have O6 : OwnI w6 W1.heap.size v6 (upL (na.1.map (fun o => AT (o * B.length + k)) ++ (nb.1.take (m + 1)).map (fun o => AT (i * B.length + o)))) := by
                    have e : na.1.map (fun o => AT (o * B.length + k)) ++ (nb.1.take (m + 1)).map (fun o => AT (i * B.length + o)) = PL ++ [z] := by
                      rw [take_snoc' HOX.out, List.map_append, ← HPL.out]
                      rw [show [o].map (fun o => AT (i * B.length + o)) = [z] from by rw [List.map_singleton, HZ.out]]
                      try (first | rfl | rw [← List.append_assoc])
                    rw [e, upL_snoc]
                    unfold OwnI
                    rw [List.map_append, List.length_append]
                    exact hown6
                  obtain ⟨a6, c6, hv6⟩ := O6.form
                  have hm6 : (upL (na.1.map (fun o => AT (o * B.length + k)) ++ (nb.1.take (m + 1)).map (fun o => AT (i * B.length + o)))).length = len + 1 := by
                    rw [upL_len]
                    have := hl.out
                    simp only [List.length_append, List.length_map, List.length_take] at this ⊢
                    omega
                  rw [hm6] at hv6
                  subst hv6
                  have HO6 := Lib.hid O6
                  have ho6 : Only wr w6 (fun b => (Value.slice a len c).ownBlock = some b) := (Only.of_below (F := fun b => (Value.slice a len c).ownBlock = some b) hal).trans (Only.of_grown (F := fun b => (Value.slice a len c).ownBlock = some b) hgrow6 (fun g e => e)) (fun _ _ h => h)
                  have HB6 := Lib.hid (hb1.out.trans (ho6.below (by omega) (fun g h => (hol g h).1)))
                  have HU6 := Lib.hid (hou.out.only ho6 (fun g e1 e2 => hap.out g e1 e2))
                  have HA6 : Hid (Apart (.slice (some ⟨W1.heap.size + 1, 0, none⟩) 0 0) (.slice a6 (len + 1) c6)) := Lib.hid (fun g e1 e2 => by
                    rcases hat6 with h | h
                    · exact hap.out g e1 (h ▸ e2)
                    · rw [h] at e2
                      injection e2 with e2
                      have := hou.out.lt g e1
                      try simp at e2
                      omega)
                  have hsz6 : W1.heap.size + 2 ≤ w6.heap.size := by have := ho6.size; omega
                  have HM6 : Hid (len + 1 = (na.1.map (fun o => AT (o * B.length + k)) ++ (nb.1.take (m + 1)).map (fun o => AT (i * B.length + o))).length) := Lib.hid (by rw [← hm6, upL_len])
                  clear hown6 hgrow6 hnil6 hat6 hal hol O6 hm6 ho6 ho hb1 hl hou hap hll hat hxc kf' kg' cc'
                  go_wp2
                  go_roundw
                  case rel => exact ⟨m + 1, len + 1, a6, c6, by omega, by go_num, rfl, HM6, HO6, HB6, HU6, HA6, hsz6⟩
                  case measure => first | (simp [intOf]; done) | (simp [intOf]; omega)
                · have hme : m = nb.1.length := by omega
                  subst hme
                  rw [List.take_length] at ho hl
                  obtain ⟨aL, ea⟩ : ∃ x, x = a := ⟨_, rfl⟩
                  obtain ⟨lenL, el⟩ : ∃ x, x = len := ⟨_, rfl⟩
                  obtain ⟨cL, ec⟩ : ∃ x, x = c := ⟨_, rfl⟩
                  subst ea
                  subst el
                  subst ec
                  have HLL := hl
                  go_wp2
                  go_loopw [11, 14] (fun v t wr => ∃ (m len : Nat) (a : Option Addr) (c : Nat), m ≤ na.2.length ∧ t = .int .i64 m ∧ v = .slice a len c ∧ Hid (len = ((na.2.take m).map (fun o => AT (o * B.length + k))).length) ∧ Hid (OwnI wr W1.heap.size (.slice a len c) (upL ((na.2.take m).map (fun o => AT (o * B.length + k))))) ∧ Hid (RowKit.Below W1.heap.size W1 wr) ∧
                    Hid (OwnI wr W1.heap.size (.slice aL lenL cL) (upL (na.1.map (fun o => AT (o * B.length + k)) ++ nb.1.map (fun o => AT (i * B.length + o))))) ∧ Hid (Apart (.slice aL lenL cL) (.slice a len c)) ∧ W1.heap.size + 2 ≤ wr.heap.size) (fun _ t _ => na.2.length - (intOf t).toNat)
                  case atStart => exact ⟨0, 0, some ⟨W1.heap.size + 1, 0, none⟩, 0, Nat.zero_le _, rfl, rfl, Lib.hid (by simp), hou, hb1, ho, Lib.hid hap.out.symm, hsz⟩
                  case round =>
                    obtain ⟨m, len, a, c, hm, rfl, rfl, hl, ho, hb1, hou, hap, hsz⟩ := hrel
                    have kf' := (bcell hb1.out _ _ blf).trans kf
                    have kg' := (bcell hb1.out _ _ blg).trans kg
                    have cc' := (bcell hb1.out _ _ bl2).trans c2
                    by_cases hlt3 : m < na.2.length
                    · obtain ⟨o, hox⟩ := lt_get hlt3
                      have hob := HlA.out o (Or.inr (List.mem_of_getElem? hox))
                      obtain ⟨bx, ox, hxa, _, hxc⟩ := ints_atP (J2.out.below hb1.out (Nat.le_trans hh hbs)) hox
                      subst hxa
                      have g5 : W1.heap.size ≤ wr.heap.size + 1 := by omega
                      obtain ⟨q, hq⟩ : ∃ q, o * B.length = q := ⟨_, rfl⟩
                      have hidx : q + k < p' := by
                        rw [hp.out, ← hq]
                        have h5 : (o + 1) * B.length ≤ i * B.length := Nat.mul_le_mul_right _ (by omega)
                        rw [Nat.add_mul] at h5
                        omega
                      have s0 : (0 : Int) ≤ (q : Int) + (k : Int) := by omega
                      have s1 : (q : Int) + (k : Int) < p' := by omega
                      have s2 : ((q : Int) + (k : Int)).toNat = q + k := by omega
                      have hat := HAT.out wr hb1.out (q + k) hidx
                      obtain ⟨z, hz⟩ : ∃ z, AT (q + k) = z := ⟨_, rfl⟩
                      rw [hz] at hat
                      have HZ : Hid ((fun o => AT (o * B.length + k)) o = z) := Lib.hid (by rw [← hz, ← hq])
                      have m0 : (0 : Int) ≤ m := by omega
                      have m1 : (m : Int) < na.2.length := by omega
                      have o0 : (0 : Int) ≤ o := by omega
                      have o1' : (o : Int) ≤ 120 := by omega
                      have hll : (upL ((na.2.take m).map (fun o => AT (o * B.length + k)))).length ≤ 60 := by rw [upL_len]; simp only [List.length_append, List.length_map, List.length_take]; omega
                      obtain ⟨PL, hPL⟩ : ∃ l, (na.2.take m).map (fun o => AT (o * B.length + k)) = l := ⟨_, rfl⟩
                      rw [hPL] at ho hll
                      have g3 : (upL PL).length + 1 ≤ maxLen := by unfold maxLen; omega
                      have g4 : ((upL PL).length + 1) * 8 ≤ 140737488355328 := by omega
                      have s3 : IntKind.i64.wrap ((q : Int) + (k : Int)) = (q : Int) + (k : Int) := IntWalk.i64_in _ (by omega)
                      have hwm : IntKind.i64.wrap ((o : Int) * (B.length : Int)) = (q : Int) := by rw [← hq]; exact mulS_cast (Nat.le_trans (Nat.mul_le_mul (show o ≤ 120 by omega) hB) (by omega))
                      have HPL := Lib.hid hPL
                      have HOX := Lib.hid hox
                      have HQ := Lib.hid hq
                      clear hox hq hz hPL
                      go_wp2_with (at_builtin; refine wpList_append_own_at _ rfl _ _ 55 rfl W1.heap.size 3 iI (.int .i64 0) 1 8 Tryz.underlying55 hiI hzI0 hzI1 hzI2 rfl (by decide) _ _ _ rfl (World.ownsRow.alloc ho.out _) ⟨wr.heap.size, 0, none⟩ 1 1 [.int .i64 (z : Int)] rfl rfl ?ec1 ?ec2 ?ec3 ?ec4 ?ec5 ?_)
                      try (case ec1 => exact World.news_of_block (heap_alloc_new _ _))
                      try (case ec2 => first | rfl | (intro u hu; simp at hu; subst hu; rfl))
                      try (case ec3 => exact g3)
                      try (case ec4 => exact g4)
                      try (case ec5 => simp only [World.size_alloc]; exact g5)
                      try (case ec5 => simpa using g5)
                      intro v6 w6 hown6 hgrow6 hnil6 hat6
                      clear hwm s3 s0 s1 s2
                      have hal : RowKit.Below wr.heap.size wr (wr.alloc (.cells #[.int .i64 (z : Int)] 3)) := (RowKit.Below.refl _ _).alloc (Nat.le_refl _) _
                      have hol := ho.out.lt
                      have O6 : OwnI w6 W1.heap.size v6 (upL ((na.2.take (m + 1)).map (fun o => AT (o * B.length + k)))) := by
                        have e : (na.2.take (m + 1)).map (fun o => AT (o * B.length + k)) = PL ++ [z] := by
                          rw [take_snoc' HOX.out, List.map_append, ← HPL.out]
                          rw [show [o].map (fun o => AT (o * B.length + k)) = [z] from by rw [List.map_singleton, HZ.out]]
                          try (first | rfl | rw [← List.append_assoc])
                        rw [e, upL_snoc]
                        unfold OwnI
                        rw [List.map_append, List.length_append]
                        exact hown6
                      obtain ⟨a6, c6, hv6⟩ := O6.form
                      have hm6 : (upL ((na.2.take (m + 1)).map (fun o => AT (o * B.length + k)))).length = len + 1 := by
                        rw [upL_len]
                        have := hl.out
                        simp only [List.length_append, List.length_map, List.length_take] at this ⊢
                        omega
                      rw [hm6] at hv6
                      subst hv6
                      have HO6 := Lib.hid O6
                      have ho6 : Only wr w6 (fun b => (Value.slice a len c).ownBlock = some b) := (Only.of_below (F := fun b => (Value.slice a len c).ownBlock = some b) hal).trans (Only.of_grown (F := fun b => (Value.slice a len c).ownBlock = some b) hgrow6 (fun g e => e)) (fun _ _ h => h)
                      have HB6 := Lib.hid (hb1.out.trans (ho6.below (by omega) (fun g h => (hol g h).1)))
                      have HU6 := Lib.hid (hou.out.only ho6 (fun g e1 e2 => hap.out g e1 e2))
                      have HA6 : Hid (Apart (.slice aL lenL cL) (.slice a6 (len + 1) c6)) := Lib.hid (fun g e1 e2 => by
                        rcases hat6 with h | h
                        · exact hap.out g e1 (h ▸ e2)
                        · rw [h] at e2
                          injection e2 with e2
                          have := hou.out.lt g e1
                          try simp at e2
                          omega)
                      have hsz6 : W1.heap.size + 2 ≤ w6.heap.size := by have := ho6.size; omega
                      have HM6 : Hid (len + 1 = ((na.2.take (m + 1)).map (fun o => AT (o * B.length + k))).length) := Lib.hid (by rw [← hm6, upL_len])
                      clear hown6 hgrow6 hnil6 hat6 hal hol O6 hm6 ho6 ho hb1 hl hou hap hll hat hxc kf' kg' cc'
                      go_wp2
                      go_roundw
                      case rel => exact ⟨m + 1, len + 1, a6, c6, by omega, by go_num, rfl, HM6, HO6, HB6, HU6, HA6, hsz6⟩
                      case measure => first | (simp [intOf]; done) | (simp [intOf]; omega)
                    · have hme : m = na.2.length := by omega
                      subst hme
                      rw [List.take_length] at ho hl
                      go_wp2
                      go_loopw [11, 15] (fun v t wr => ∃ (m len : Nat) (a : Option Addr) (c : Nat), m ≤ nb.2.length ∧ t = .int .i64 m ∧ v = .slice a len c ∧ Hid (len = (na.2.map (fun o => AT (o * B.length + k)) ++ (nb.2.take m).map (fun o => AT (i * B.length + o))).length) ∧ Hid (OwnI wr W1.heap.size (.slice a len c) (upL (na.2.map (fun o => AT (o * B.length + k)) ++ (nb.2.take m).map (fun o => AT (i * B.length + o))))) ∧ Hid (RowKit.Below W1.heap.size W1 wr) ∧
                        Hid (OwnI wr W1.heap.size (.slice aL lenL cL) (upL (na.1.map (fun o => AT (o * B.length + k)) ++ nb.1.map (fun o => AT (i * B.length + o))))) ∧ Hid (Apart (.slice aL lenL cL) (.slice a len c)) ∧ W1.heap.size + 2 ≤ wr.heap.size) (fun _ t _ => nb.2.length - (intOf t).toNat)
                      case atStart => exact ⟨0, len, a, c, Nat.zero_le _, rfl, rfl, Lib.hid (by rw [List.take_zero, List.map_nil, List.append_nil]; exact hl.out), Lib.hid (by rw [List.take_zero, List.map_nil, List.append_nil]; exact ho.out), hb1, hou, hap, hsz⟩
                      case round =>
                        obtain ⟨m, len, a, c, hm, rfl, rfl, hl, ho, hb1, hou, hap, hsz⟩ := hrel
                        have kf' := (bcell hb1.out _ _ blf).trans kf
                        have kg' := (bcell hb1.out _ _ blg).trans kg
                        have cc' := (bcell hb1.out _ _ bl4).trans c4
                        by_cases hlt3 : m < nb.2.length
                        · obtain ⟨o, hox⟩ := lt_get hlt3
                          have hob := HlB.out o (Or.inr (List.mem_of_getElem? hox))
                          obtain ⟨bx, ox, hxa, _, hxc⟩ := ints_atP (J4.out.below hb1.out (Nat.le_trans hh' hbs)) hox
                          subst hxa
                          have g5 : W1.heap.size ≤ wr.heap.size + 1 := by omega
                          obtain ⟨q, hq⟩ : ∃ q, i * B.length = q := ⟨_, rfl⟩
                          have hidx : q + o < p' := by
                            rw [hp.out, ← hq]
                            omega
                          have s0 : (0 : Int) ≤ (q : Int) + (o : Int) := by omega
                          have s1 : (q : Int) + (o : Int) < p' := by omega
                          have s2 : ((q : Int) + (o : Int)).toNat = q + o := by omega
                          have hat := HAT.out wr hb1.out (q + o) hidx
                          obtain ⟨z, hz⟩ : ∃ z, AT (q + o) = z := ⟨_, rfl⟩
                          rw [hz] at hat
                          have HZ : Hid ((fun o => AT (i * B.length + o)) o = z) := Lib.hid (by rw [← hz, ← hq])
                          have m0 : (0 : Int) ≤ m := by omega
                          have m1 : (m : Int) < nb.2.length := by omega
                          have o0 : (0 : Int) ≤ o := by omega
                          have o1' : (o : Int) ≤ 120 := by omega
                          have hll : (upL (na.2.map (fun o => AT (o * B.length + k)) ++ (nb.2.take m).map (fun o => AT (i * B.length + o)))).length ≤ 60 := by rw [upL_len]; simp only [List.length_append, List.length_map, List.length_take]; omega
                          obtain ⟨PL, hPL⟩ : ∃ l, na.2.map (fun o => AT (o * B.length + k)) ++ (nb.2.take m).map (fun o => AT (i * B.length + o)) = l := ⟨_, rfl⟩
                          rw [hPL] at ho hll
                          have g3 : (upL PL).length + 1 ≤ maxLen := by unfold maxLen; omega
                          have g4 : ((upL PL).length + 1) * 8 ≤ 140737488355328 := by omega
                          have s3 : IntKind.i64.wrap ((q : Int) + (o : Int)) = (q : Int) + (o : Int) := IntWalk.i64_in _ (by omega)
                          have hwm : IntKind.i64.wrap ((i : Int) * (B.length : Int)) = (q : Int) := by rw [← hq]; exact mulS_cast (Nat.le_trans (Nat.mul_le_mul (show i ≤ 120 by omega) hB) (by omega))
                          have HPL := Lib.hid hPL
                          have HOX := Lib.hid hox
                          have HQ := Lib.hid hq
                          clear hox hq hz hPL
                          go_wp2_with (at_builtin; refine wpList_append_own_at _ rfl _ _ 55 rfl W1.heap.size 3 iI (.int .i64 0) 1 8 Tryz.underlying55 hiI hzI0 hzI1 hzI2 rfl (by decide) _ _ _ rfl (World.ownsRow.alloc ho.out _) ⟨wr.heap.size, 0, none⟩ 1 1 [.int .i64 (z : Int)] rfl rfl ?ed1 ?ed2 ?ed3 ?ed4 ?ed5 ?_)
                          try (case ed1 => exact World.news_of_block (heap_alloc_new _ _))
                          try (case ed2 => first | rfl | (intro u hu; simp at hu; subst hu; rfl))
                          try (case ed3 => exact g3)
                          try (case ed4 => exact g4)
                          try (case ed5 => simp only [World.size_alloc]; exact g5)
                          try (case ed5 => simpa using g5)
                          intro v6 w6 hown6 hgrow6 hnil6 hat6
                          clear hwm s3 s0 s1 s2
                          have hal : RowKit.Below wr.heap.size wr (wr.alloc (.cells #[.int .i64 (z : Int)] 3)) := (RowKit.Below.refl _ _).alloc (Nat.le_refl _) _
                          have hol := ho.out.lt
                          have O6 : OwnI w6 W1.heap.size v6 (upL (na.2.map (fun o => AT (o * B.length + k)) ++ (nb.2.take (m + 1)).map (fun o => AT (i * B.length + o)))) := by
                            have e : na.2.map (fun o => AT (o * B.length + k)) ++ (nb.2.take (m + 1)).map (fun o => AT (i * B.length + o)) = PL ++ [z] := by
                              rw [take_snoc' HOX.out, List.map_append, ← HPL.out]
                              rw [show [o].map (fun o => AT (i * B.length + o)) = [z] from by rw [List.map_singleton, HZ.out]]
                              try (first | rfl | rw [← List.append_assoc])
                            rw [e, upL_snoc]
                            unfold OwnI
                            rw [List.map_append, List.length_append]
                            exact hown6
                          obtain ⟨a6, c6, hv6⟩ := O6.form
                          have hm6 : (upL (na.2.map (fun o => AT (o * B.length + k)) ++ (nb.2.take (m + 1)).map (fun o => AT (i * B.length + o)))).length = len + 1 := by
                            rw [upL_len]
                            have := hl.out
                            simp only [List.length_append, List.length_map, List.length_take] at this ⊢
                            omega
                          rw [hm6] at hv6
                          subst hv6
                          have HO6 := Lib.hid O6
                          have ho6 : Only wr w6 (fun b => (Value.slice a len c).ownBlock = some b) := (Only.of_below (F := fun b => (Value.slice a len c).ownBlock = some b) hal).trans (Only.of_grown (F := fun b => (Value.slice a len c).ownBlock = some b) hgrow6 (fun g e => e)) (fun _ _ h => h)
                          have HB6 := Lib.hid (hb1.out.trans (ho6.below (by omega) (fun g h => (hol g h).1)))
                          have HU6 := Lib.hid (hou.out.only ho6 (fun g e1 e2 => hap.out g e1 e2))
                          have HA6 : Hid (Apart (.slice aL lenL cL) (.slice a6 (len + 1) c6)) := Lib.hid (fun g e1 e2 => by
                            rcases hat6 with h | h
                            · exact hap.out g e1 (h ▸ e2)
                            · rw [h] at e2
                              injection e2 with e2
                              have := hou.out.lt g e1
                              try simp at e2
                              omega)
                          have hsz6 : W1.heap.size + 2 ≤ w6.heap.size := by have := ho6.size; omega
                          have HM6 : Hid (len + 1 = (na.2.map (fun o => AT (o * B.length + k)) ++ (nb.2.take (m + 1)).map (fun o => AT (i * B.length + o))).length) := Lib.hid (by rw [← hm6, upL_len])
                          clear hown6 hgrow6 hnil6 hat6 hal hol O6 hm6 ho6 ho hb1 hl hou hap hll hat hxc kf' kg' cc'
                          go_wp2
                          go_roundw
                          case rel => exact ⟨m + 1, len + 1, a6, c6, by omega, by go_num, rfl, HM6, HO6, HB6, HU6, HA6, hsz6⟩
                          case measure => first | (simp [intOf]; done) | (simp [intOf]; omega)
                        · have hme : m = nb.2.length := by omega
                          subst hme
                          rw [List.take_length] at ho hl
                          have hsm := Hsm.out
                          have C3 := Lib.hid (hK.out.put_calls HTU.out (by rw [HTL.out]; omega) wr hb1.out (.slice aL lenL cL) (.slice a len c) (sumL B.length i k na.1 nb.1) (sumL B.length i k na.2 nb.2) W1.heap.size wr.heap.size W1.heap.size wr.heap.size (Nat.le_refl _) (Nat.le_refl _) (by rw [HAE.out, sumL_map]; exact hou.out.ints) (by rw [HAE.out, sumL_map]; exact ho.out.ints) (fun x hx => by rw [HTL.out]; exact US.out p' _ HND.out x (Or.inl hx)) (fun x hx => by rw [HTL.out]; exact US.out p' _ HND.out x (Or.inr hx)) (by omega) (by omega))
                          obtain ⟨su, hsu⟩ : ∃ su, seatAt P (sumL B.length i k na.1 nb.1) (sumL B.length i k na.2 nb.2) = su := ⟨_, rfl⟩
                          rw [hsu] at C3
                          have HSU := Lib.hid hsu
                          have OWNP := Lib.hid (own_only hK.out.own (Only.of_below (F := fun _ => False) hb1.out) (fun _ _ => id))
                          rw [HTL.out] at OWNP
                          have hs1 := hb1.out.size
                          clear hsu hsm
                          go_wp2_with (first
                            | (go_at_call 48; refine C3.out.mono ?_; rintro e w6 ⟨rfl, vn', vb', vs', hK6, ho6, hf6⟩; have OW6 := own_only OWNP.out ho6 (fun g e => by injection e with e; subst e; exact HNF.out))
                            | (at_builtin; refine wpList_append_own_at _ rfl _ _ 55 rfl (w.heap.size + 3) 3 iI (.int .i64 0) 1 8 Tryz.underlying55 hiI hzI0 hzI1 hzI2 rfl (by decide) _ _ _ rfl (World.ownsRow.alloc OW6 _) ⟨w6.heap.size, 0, none⟩ 1 1 [.int .i64 (su : Int)] rfl rfl ?ee1 ?ee2 ?ee3 ?ee4 ?ee5 ?_))
                          try (case ee1 => exact World.news_of_block (heap_alloc_new _ _))
                          try (case ee2 => first | rfl | (intro u hu; simp at hu; subst hu; rfl))
                          try (case ee3 => unfold maxLen; omega)
                          try (case ee4 => omega)
                          try (case ee5 => simp; have := ho6.size; omega)
                          intro v7 w7 hown7 hgrow7 hnil7 hat7
                          obtain ⟨g7, c7, rfl, HK7, HO7, HB7⟩ := hK.out.next hb1.out hK6 ho6 hf6 (by rw [HTL.out, HSU.out]; exact hown7) (by rw [HTL.out, HSU.out]; exact hgrow7) (by rw [HTL.out, HSU.out]; simpa using hat7)
                          rw [HTL.out]
                          have K7 : Hid (BkAt (w.heap.size + 3) w7 ((sumN A B).take (p' + 1)) g7 c7 vn' vb' vs') := Lib.hid (by rw [HTS.out]; exact HK7.out)
                          have B7 : Hid (RowKit.Below w.heap.size w w7) := Lib.hid (hbw.out.trans (HB7.out.mono (by omega)))
                          have hfar : ∀ q, q < w.heap.size + 3 → ¬ (Foot (w.heap.size + 3) vn vb q ∨ q = ga) := fun q hq h => by
                            rcases h with h | h
                            · have := (hK.out.bk.lt _ h).1; omega
                            · omega
                          have X7 : Hid (BoxAt w7 (w.heap.size + 2) (.slice none 0 0)) := Lib.hid (hx.out.only HO7.out (hfar _ (by omega)))
                          have kf7 := (HO7.out.cell (o := 0) blf (hfar _ (by omega))).trans kf
                          have kg7 := (HO7.out.cell (o := 0) blg (hfar _ (by omega))).trans kg
                          have HP7 : Hid (p' + 1 = i * B.length + (k + 1)) := Lib.hid (by have := hp.out; omega)
                          clear hown7 hgrow7 hnil7 hat7 hK6 ho6 hf6 OW6 HK7 HO7 HB7 hfar C3 hou ho hb1 hl hap hbw hx hK c1 c2 c3 c4 kf kg
                          go_wp2
                          go_roundw
                          case rel => exact ⟨k + 1, p' + 1, g7, c7, vn', vb', vs', by omega, by go_num, rfl, HP7, K7, B7, X7, kf7, kg7⟩
                          case measure => first | (simp [intOf]; done) | (simp [intOf]; omega)
        · have hke : k = B.length := by omega
          have HP2 : Hid (p' = (i + 1) * B.length) := Lib.hid (by rw [hp.out, hke, Nat.add_mul, Nat.one_mul])
          have hpl : p' ≤ 120 * 120 := by
            have h2 : (i + 1) * B.length ≤ A.length * B.length := Nat.mul_le_mul_right _ (by omega)
            have := HP2.out
            omega
          clear hp
          go_wp2
          go_roundw
          case rel => exact ⟨i + 1, p', ga, ca', vn, vb, vs, by omega, by go_num, rfl, HP2, hK, hbw, hx, kf, kg⟩
          case measure => first | (simp [intOf]; done) | (simp [intOf]; omega)
    · have hie : i = A.length := by omega
      have hpe : p = A.length * B.length := by rw [hp.out, hie]
      rw [show (sumN A B).take p = sumN A B from List.take_of_length_le (by rw [SL.out]; omega)] at hK
      have hpos : 0 < A.length * B.length := Nat.mul_pos pA pB
      obtain ⟨z, hz⟩ := lt_get (l := (addF [] (sumN A B)).2) (i := p - 1) (by rw [at_len, SL.out]; omega)
      have HZ : Hid ((addF [] (sumN A B)).2.getD ((sumN A B).length - 1) 0 = z) := Lib.hid (by rw [SL.out, ← hpe, List.getD_eq_getElem?_getD, hz]; rfl)
      have hbk := (addF_added [] book_nil (sumN A B) US.out).book
      have hzl : z < (addF [] (sumN A B)).1.length := by
        rw [← HZ.out]
        exact at_lt' _ US.out _ (by rw [SL.out]; omega)
      have hal := (addF_len [] (sumN A B)).2
      have hown := hK.out.own
      rw [SL.out] at hown hal
      rw [← hpe] at hown
      have hcz : wr.cell? ⟨ga, p - 1, none⟩ = some (.int .i64 (z : Int)) := by
        rw [World.ownsRow.cellAt hown (p - 1) (by omega), List.getElem?_map, hz]
        rfl
      have CF := Lib.hid (form_calls (w.heap.size + 3) (w.heap.size + 3) (addF [] (sumN A B)).1 vn vb vs (fun g => g = ga) z wr hK.out.bk hbk hzl (by simp at hal; omega))
      have HFI := Lib.hid (form_is (sumN A B))
      rw [HZ.out] at HFI
      rw [HFI.out] at CF
      obtain ⟨G, hG⟩ : ∃ G, (formM (sumN A B)).map upN = G := ⟨_, rfl⟩
      rw [hG] at CF
      have HGG := Lib.hid hG
      have hn1 : IntKind.i64.wrap ((p : Int) - 1) = (p : Int) - 1 := IntWalk.i64_in _ (by omega)
      have hn2 : (0 : Int) ≤ (p : Int) - 1 := by omega
      have hn3 : (p : Int) - 1 < p := by omega
      have hn4 : ((p : Int) - 1).toNat = p - 1 := by omega
      have hbs := hbw.out.size
      have hlt1 := block_of_cell hx.out.1
      have HPE := Lib.hid hpe
      clear hz hzl hbk hal hown hK hG hpe hp hpos
      go_wp2_with fail
      refine CF.out.mono ?_
      rintro e w5 ⟨v, rfl, hn5, hb5⟩
      obtain ⟨d5, z5⟩ := hx.out.below hb5
      have HB5 : Hid (RowKit.Below w.heap.size w (w5.setCell ⟨w.heap.size + 2, 0, none⟩ v)) := Lib.hid ((hbw.out.trans (hb5.mono hbs)).setCell (by show w.heap.size ≤ w.heap.size + 2; omega) _)
      have HN : Hid (NodesZ (w5.setCell ⟨w.heap.size + 2, 0, none⟩ v) w.heap.size (w5.setCell ⟨w.heap.size + 2, 0, none⟩ v).heap.size v G) := Lib.hid ((NodesZ.keep hn5 (fun b o h1 h2 => World.cell?_setCell_other _ _ _ _ (fun e => by injection e with e _ _; omega))).wide hbs (by simp))
      have hcr := World.cell?_setCell_same w5 ⟨w.heap.size + 2, 0, none⟩ v d5
      obtain ⟨av, cv, rfl, _⟩ := (show ∃ a c, v = .slice a G.length c ∧ True from by obtain ⟨a, c, e, _⟩ := hn5; exact ⟨a, c, e, trivial⟩)
      clear hn5 hb5 CF hx hbw
      go_wp2_with fail
      refine bodyPost_ret (v := .agg #[.slice av G.length cv]) (by simp [results, Tryz.results35, go_sem, hcr]) rfl ?_
      rw [HGG.out]
      exact ⟨_, rfl, HN.out, HB5.out⟩
end

section
open Go.RowKit
set_option linter.unusedVariables false
set_option linter.unusedSimpArgs false

set_option maxRecDepth 100000 in
set_option maxHeartbeats 2000000 in
theorem sumS_calls (va vb : Value) (f g h : List Nz) (ok : Bool) (hok : Hid (sumOk f g = ok)) (hv : Hid (sumV f g = h)) (w : World) (lo hi lo' hi' : Nat) (hh : hi ≤ w.heap.size) (hh' : hi' ≤ w.heap.size) (hva : NodesZ w lo hi va f) (hvb : NodesZ w lo' hi' vb g) :
    Calls Tryz.prog 20 #[.agg #[va], .agg #[vb]] w fun e w' => ∃ a c, e = .returned (.tuple #[.agg #[.slice a h.length c], .bool ok]) ∧ NodesZ w' w.heap.size w'.heap.size (.slice a h.length c) h ∧ Below w.heap.size w w' := by
  have HB0 := Lib.hid fun o o' o'' => show Below w.heap.size w (((w.alloc o).alloc o').alloc o'') from (((Below.refl _ _).alloc (Nat.le_refl _) _).alloc (by simp) _).alloc (by simp; omega) _
  obtain ⟨r, hr⟩ : ∃ r, pairB f g = r := ⟨_, rfl⟩
  have CG := Lib.hid fun (W : World) (hW : Below w.heap.size w W) => l5Pair_calls va vb f g r (Lib.hid hr) W lo hi lo' hi' (Nat.le_trans hh hW.size) (Nat.le_trans hh' hW.size) (hva.below hW hh) (hvb.below hW hh')
  have HVA := Lib.hid fun (W : World) (hW : Below w.heap.size w W) => hva.below hW hh
  have HVB := Lib.hid fun (W : World) (hW : Below w.heap.size w W) => hvb.below hW hh'
  obtain ⟨aa, ca, rfl⟩ := slice_form hva
  obtain ⟨ab, cb, rfl⟩ := slice_form hvb
  clear hva hvb
  go_enter Tryz.func20, Tryz.ntmps20
  go_wp2_with fail
  refine (CG.out _ (HB0.out _ _ _)).mono ?_
  rintro e w4 ⟨rfl, hb4⟩
  have k1 : w4.cell? ⟨w.heap.size, 0, none⟩ = some (.slice aa f.length ca) := (bcell hb4 _ _ (by simp; omega)).trans (by go_simp)
  have k2 : w4.cell? ⟨w.heap.size + 1, 0, none⟩ = some (.slice ab g.length cb) := (bcell hb4 _ _ (by first | (simp; done) | (simp; omega))).trans (by go_simp)
  obtain ⟨d0, z0⟩ : BoxAt w4 (w.heap.size + 1 + 1) (.slice none 0 0) := BoxAt.below ⟨by go_simp, by go_simp⟩ hb4
  have HB4 := Lib.hid (Below.trans (HB0.out _ _ _) (hb4.mono (by simp; omega)))
  have hlt := block_of_cell d0
  clear hb4 CG
  cases r with
  | false =>
    obtain rfl : h = [] := by rw [← hv.out, sumV_no hr]
    obtain rfl : ok = false := by rw [← hok.out, sumOk_no hr]
    have B4 := Lib.hid (HB4.out.setCell (p := ⟨w.heap.size + 1 + 1, 0, none⟩) (by show w.heap.size ≤ w.heap.size + 1 + 1; omega) (.slice none 0 0))
    have hcr := World.cell?_setCell_same w4 ⟨w.heap.size + 1 + 1, 0, none⟩ (.slice none 0 0) d0
    go_wp2_with fail
    exact bodyPost_ret (v := .tuple #[.agg #[.slice none 0 0], .bool false]) (by simp [results, Tryz.results20, go_sem, hcr]) rfl ⟨none, 0, rfl, (OwnF.nil _ _).nodesZ.wide (Nat.le_refl _) (Nat.le_refl _), B4.out⟩
  | true =>
    obtain ⟨hp1, hp2, hp3⟩ := (pairB_iff f g).1 hr
    obtain ⟨eA, uA, sA, pA, lA, mA⟩ := good_parts hp1
    obtain ⟨eB, uB, sB, pB, lB, mB⟩ := good_parts hp2
    have nA : (f.map downN).length = f.length := by simp
    have nB : (g.map downN).length = g.length := by simp
    have CN := Lib.hid fun (W : World) (hW : Below w.heap.size w W) => l5Sum_calls (f.map downN) (g.map downN) aa ab ca cb W lo hi lo' hi' (Nat.le_trans hh hW.size) (Nat.le_trans hh' hW.size) (by rw [nA, eA]; exact HVA.out W hW) (by rw [nB, eB]; exact HVB.out W hW) (by omega) (by omega) (by omega) (by omega) uA uB mA mB
    obtain ⟨G, hG⟩ : ∃ G, (formM (sumN (f.map downN) (g.map downN))).map upN = G := ⟨_, rfl⟩
    have HOK : Hid (fitsB G = ok) := Lib.hid (by rw [← hG, ← fitsN_B, ← sumOk_yes hr]; exact hok.out)
    have HH : Hid (h = if ok then G else []) := Lib.hid (by
      rw [← hv.out, sumV_yes hr]
      have := sumOk_yes hr
      rw [hok.out] at this
      cases ok with
      | true => rw [outV_yes this.symm, hG]; rfl
      | false => rw [outV_no this.symm]; rfl)
    rw [nA, nB, hG] at CN
    have CF := Lib.hid fun (W : World) (v : Value) (lo hi : Nat) (hhi : hi ≤ W.heap.size) (hz : NodesZ W lo hi v G) => l3If_calls v G ok HOK W lo hi hhi hz
    clear eA uA sA eB uB sB mA mB hok hv hr hp1 hp2 nA nB hG
    go_wp2_with fail
    refine (CN.out _ HB4.out).mono ?_
    rintro e w5 ⟨v5, rfl, hz5, hb5⟩
    have C2 := Lib.hid (CF.out w5 v5 _ _ (Nat.le_refl _) hz5)
    have HB5 := Lib.hid (HB4.out.trans (hb5.mono HB4.out.size))
    have hx5 : BoxAt w5 (w.heap.size + 1 + 1) (.slice none 0 0) := BoxAt.below ⟨d0, z0⟩ hb5
    have hs5 := HB5.out.size
    have hl5 := hb5.size
    have HZ5 := Lib.hid hz5
    clear hz5 hb5 CN CF
    go_wp2_with fail
    refine C2.out.mono ?_
    rintro e w6 ⟨rfl, hb6⟩
    obtain ⟨d6, z6⟩ : BoxAt w6 (w.heap.size + 1 + 1) (.slice none 0 0) := BoxAt.below hx5 hb6
    obtain ⟨u, hu⟩ : ∃ u, (if ok = true then v5 else Value.slice none 0 0) = u := ⟨_, rfl⟩
    have HO : Hid (NodesZ (w6.setCell ⟨w.heap.size + 1 + 1, 0, none⟩ u) w.heap.size (w6.setCell ⟨w.heap.size + 1 + 1, 0, none⟩ u).heap.size u h) := Lib.hid (by
      rw [HH.out, ← hu]
      cases ok with
      | false => exact (OwnF.nil _ _).nodesZ.wide (Nat.le_refl _) (Nat.le_refl _)
      | true => exact ((HZ5.out.below hb6 (Nat.le_refl _)).keep (fun b o h1 h2 => World.cell?_setCell_other _ _ _ _ (fun e => by injection e with e _ _; omega))).wide (by omega) (by simp; exact hb6.size))
    have HB6 : Hid (Below w.heap.size w (w6.setCell ⟨w.heap.size + 1 + 1, 0, none⟩ u)) := Lib.hid ((HB5.out.trans (hb6.mono hs5)).setCell (by show w.heap.size ≤ w.heap.size + 1 + 1; omega) _)
    obtain ⟨au, cu, rfl⟩ := slice_form HO.out
    rw [hu]
    have hcr := World.cell?_setCell_same w6 ⟨w.heap.size + 1 + 1, 0, none⟩ (.slice au h.length cu) d6
    clear hb6 hx5 C2 hu
    go_wp2_with fail
    exact bodyPost_ret (v := .tuple #[.agg #[.slice au h.length cu], .bool ok]) (by simp [results, Tryz.results20, go_sem, hcr]) rfl ⟨au, cu, rfl, HO.out, HB6.out⟩
end
end

section
open Go.RowKit
set_option linter.unusedVariables false
set_option linter.unusedSimpArgs false

def NilPost (w : World) (e : Ending) (w' : World) : Prop := ∃ g vs, e = .returned (.agg #[.slice (some ⟨g, 0, none⟩) 1 1]) ∧ OwnF w' w.heap.size (.slice (some ⟨g, 0, none⟩) 1 1) vs [([], [])] ∧ Below w.heap.size w w'

set_option maxRecDepth 100000 in
theorem nothing_own (w : World) : Calls Tryz.prog 21 #[] w (NilPost w) := by
  obtain ⟨i0, hi0, hz0, hz1, hz2⟩ := info_parts infoNodeA
  have hb0 : Below w.heap.size w (w.alloc (.cells #[.slice none 0 0] 26)) := (Below.refl _ _).alloc (Nat.le_refl _) _
  have hx0 : BoxAt (w.alloc (.cells #[.slice none 0 0] 26)) w.heap.size (.slice none 0 0) := ⟨by go_simp, by go_simp⟩
  have hz : (w.alloc (.cells #[.slice none 0 0] 26)).heap.size = w.heap.size + 1 := by simp
  have HB0 := Lib.hid hb0
  have HX0 := Lib.hid hx0
  have HZ := Lib.hid hz
  clear hb0 hx0 hz
  go_enter Tryz.func21, Tryz.ntmps21
  go_wp2_with (at_make; refine wpList_make_full _ rfl _ _ 24 rfl (w.heap.size + 1) 57 i0 (.agg #[.slice none 0 0, .slice none 0 0]) 2 Tryz.underlying24 hi0 hz0 hz1 _ _ _ _ 1 rfl rfl (by first | rfl | (simp; done)) (by first | rfl | (simp; done)) (by rw [hz2]; omega) (by unfold maxLen; omega) (by simp) ?_; intro w1 hown hg; have hbg : Below _ _ w1 := (Below.refl _ _).grown hg (Nat.le_refl _) (fun k hk => by cases hk); obtain ⟨d1, z1⟩ := HX0.out.below hbg)
  rw [HZ.out] at hown
  have HB := Lib.hid ((HB0.out.trans (hbg.mono HB0.out.size)).setCell (p := ⟨w.heap.size, 0, none⟩) (Nat.le_refl _) (.slice (some ⟨w.heap.size + 1, 0, none⟩) 1 1))
  have HO := Lib.hid (((ownF_made hown).setCell (p := ⟨w.heap.size, 0, none⟩) (u := .slice (some ⟨w.heap.size + 1, 0, none⟩) 1 1) (by show w.heap.size < w.heap.size + 1; omega)).mono (base' := w.heap.size) (by omega))
  have hcr := World.cell?_setCell_same w1 ⟨w.heap.size, 0, none⟩ (.slice (some ⟨w.heap.size + 1, 0, none⟩) 1 1) d1
  clear hown hg hbg
  go_wp2_with fail
  exact bodyPost_ret (v := .agg #[.slice (some ⟨w.heap.size + 1, 0, none⟩) 1 1]) (by simp [results, Tryz.results21, go_sem, hcr]) rfl ⟨_, _, rfl, HO.out, HB.out⟩
end

section
set_option linter.unusedVariables false
set_option linter.unusedSimpArgs false

def zeroZ : List Nz := [([], [])]
/-- one game more -/
def soStep (s : List Nz × Bool) (f : List Nz) : List Nz × Bool := if s.2 && sumOk s.1 f then (sumV s.1 f, true) else ([], false)
def soF (Fs : List (List Nz)) : List Nz × Bool := Fs.foldl soStep (zeroZ, true)
theorem soF_nil : soF [] = (zeroZ, true) := rfl
theorem soF_snoc (Fs : List (List Nz)) (f : List Nz) : soF (Fs ++ [f]) = soStep (soF Fs) f := by simp [soF, List.foldl_append]
theorem soF_take {Fs : List (List Nz)} {k : Nat} {f : List Nz} (h : Fs[k]? = some f) : soF (Fs.take (k + 1)) = soStep (soF (Fs.take k)) f := by
  rw [List.take_add_one, h]
  exact soF_snoc _ _
theorem soF_yes {Fs : List (List Nz)} {k : Nat} {f : List Nz} (h : Fs[k]? = some f) (h2 : (soF (Fs.take k)).2 = true) (h3 : sumOk (soF (Fs.take k)).1 f = true) : soF (Fs.take (k + 1)) = (sumV (soF (Fs.take k)).1 f, true) := by
  rw [soF_take h]
  unfold soStep
  rw [h2, h3]
  rfl
theorem soF_stop (l : List (List Nz)) : (l.foldl soStep ([], false)).2 = false := by
  induction l with
  | nil => rfl
  | cons f l ih =>
    rw [List.foldl_cons]
    have : soStep ([], false) f = ([], false) := rfl
    rw [this]
    exact ih
theorem soF_no {Fs : List (List Nz)} {k : Nat} {f : List Nz} (h : Fs[k]? = some f) (h3 : sumOk (soF (Fs.take k)).1 f = false) : (soF Fs).2 = false := by
  have hk := get_lt h
  have e : Fs = Fs.take (k + 1) ++ Fs.drop (k + 1) := (List.take_append_drop _ _).symm
  have e2 : soF Fs = (Fs.drop (k + 1)).foldl soStep (soF (Fs.take (k + 1))) := by
    conv => lhs; rw [e]
    unfold soF
    rw [List.foldl_append]
  have e3 : soF (Fs.take (k + 1)) = ([], false) := by
    rw [soF_take h]
    unfold soStep
    rw [h3, Bool.and_false]
    rfl
  rw [e2, e3]
  exact soF_stop _
theorem soF_good (Fs : List (List Nz)) (h : (soF Fs).2 = true) : ∀ f ∈ Fs, goodB f = true := by
  intro f hf
  obtain ⟨k, hk⟩ := List.mem_iff_getElem?.1 hf
  cases hs : sumOk (soF (Fs.take k)).1 f with
  | false => rw [soF_no hk hs] at h; cases h
  | true =>
    unfold sumOk at hs
    rw [Bool.and_eq_true] at hs
    exact ((pairB_iff _ _).1 hs.1).2.1

/-- is there a sum? -/
def soOk (Fs : List (List Nz)) : Bool := decide (Fs.length ≤ 12) && (soF Fs).2
/-- the sum, or nothing -/
def soV (Fs : List (List Nz)) : List Nz := if soOk Fs then (soF Fs).1 else []
theorem soV_no {Fs : List (List Nz)} (h : soOk Fs = false) : soV Fs = [] := by unfold soV; rw [h]; rfl
theorem soV_yes {Fs : List (List Nz)} (h : soOk Fs = true) : soV Fs = (soF Fs).1 := by unfold soV; rw [h]; rfl
theorem soOk_all {Fs : List (List Nz)} (h : alB 12 Fs = false) : soOk Fs = false := by
  cases hs : soOk Fs with
  | false => rfl
  | true =>
    unfold soOk at hs
    rw [Bool.and_eq_true] at hs
    have h2 : alB 12 Fs = true := by
      unfold alB
      rw [hs.1, Bool.true_and, List.all_eq_true]
      exact soF_good Fs hs.2
    rw [h2] at h
    cases h

theorem soF_sz (Fs : List (List Nz)) : (((soF Fs).1).map szN).sum ≤ 5760 := by
  induction Fs using snocInd with
  | nil => decide
  | snoc Fs f ih =>
    rw [soF_snoc]
    unfold soStep
    split
    · exact sumV_sz _ _
    · simp
theorem soV_sz (Fs : List (List Nz)) : ((soV Fs).map szN).sum ≤ 5760 := by
  cases h : soOk Fs with
  | false => rw [soV_no h]; simp
  | true => rw [soV_yes h]; exact soF_sz Fs
end

section
set_option linter.unusedVariables false
set_option linter.unusedSimpArgs false
open Go.RowKit

theorem below_viaS {a W b : World} (h : Below a.heap.size a W) (g : Below W.heap.size W b) : Below a.heap.size a b := h.trans (g.mono h.size)

def SoPostI (w : World) (g : List Nz) (ok : Bool) (e : Ending) (w' : World) : Prop := ∃ a c vs, e = .returned (.tuple #[.agg #[.slice a g.length c], .bool ok]) ∧ OwnF w' w.heap.size (.slice a g.length c) vs g ∧ Below w.heap.size w w'
theorem soPostI_none {w w' : World} {e : Ending} (he : e = .returned (.tuple #[.agg #[.slice none 0 0], .bool false])) (hb : Below w.heap.size w w') : SoPostI w [] false e w' := ⟨none, 0, [], he, OwnF.nil _ _, hb⟩

set_option maxRecDepth 100000 in
set_option maxHeartbeats 4000000 in
theorem sumOfI_calls (v : Value) (Fs : List (List Nz)) (g : List Nz) (ok : Bool) (hok : Hid (soOk Fs = ok)) (hg : Hid (soV Fs = g)) (w : World) (lo hi : Nat) (hh : hi ≤ w.heap.size) (hv : FormsZ w lo hi v Fs) :
    Calls Tryz.prog 8 #[v] w (SoPostI w g ok) := by
  have HV := Lib.hid fun (W : World) (hW : Below w.heap.size w W) => hv.below hW hh
  obtain ⟨av, cv, rfl⟩ : ∃ a c, v = .slice a Fs.length c := by obtain ⟨a, c, e, _⟩ := hv; exact ⟨a, c, e⟩
  have hb0 : Below w.heap.size w (w.alloc (.cells #[.slice none 0 0] 26)) := (Below.refl _ _).alloc (Nat.le_refl _) _
  have hx0 : BoxAt (w.alloc (.cells #[.slice none 0 0] 26)) w.heap.size (.slice none 0 0) := ⟨by go_simp, by go_simp⟩
  have HB0 := Lib.hid hb0
  have HX0 := Lib.hid hx0
  by_cases hn : Fs.length ≤ 12
  case neg =>
    have hn2 : (12 : Int) < Fs.length := by omega
    obtain rfl : ok = false := by rw [← hok.out]; unfold soOk; rw [decide_eq_false hn]; rfl
    obtain rfl : g = [] := by rw [← hg.out, soV_no hok.out]
    clear hv HV hb0 hx0 HX0 hok hg
    go_enter Tryz.func8, Tryz.ntmps8
    go_wp2_with fail
    exact bodyPost_ret (v := .tuple #[.agg #[.slice none 0 0], .bool false]) (by simp [results, Tryz.results8, go_sem]) rfl (soPostI_none rfl HB0.out)
  have hn2 : ¬ (12 : Int) < Fs.length := by omega
  have C0 := Lib.hid (nothing_own (w.alloc (.cells #[.slice none 0 0] 26)))
  have HS2 : Hid (ok = (soF Fs).2) := Lib.hid (by rw [← hok.out]; unfold soOk; rw [decide_eq_true hn, Bool.true_and])
  have HS1 : Hid (g = if ok then (soF Fs).1 else []) := Lib.hid (by
    cases ho : ok with
    | false => rw [← hg.out, soV_no (by rw [hok.out, ho])]; rfl
    | true => rw [← hg.out, soV_yes (by rw [hok.out, ho])]; rfl)
  clear hv hb0 hx0 hok hg
  go_enter Tryz.func8, Tryz.ntmps8
  go_wp2_with fail
  refine C0.out.mono ?_
  rintro e w1 ⟨g0, vs0, rfl, hz0, hb1⟩
  have hL1 : Below w1.heap.size w1 (w1.alloc (.cells #[.slice (some ⟨g0, 0, none⟩) 1 1] 26)) := (Below.refl _ _).alloc (Nat.le_refl _) _
  have b1 := below_viaS hb1 hL1
  have HB1 := Lib.hid (below_viaS HB0.out b1)
  have HX1 := Lib.hid (HX0.out.below b1)
  have HS0 : Hid (BoxAt (w1.alloc (.cells #[.slice (some ⟨g0, 0, none⟩) 1 1] 26)) w1.heap.size (.slice (some ⟨g0, 0, none⟩) ((soF (Fs.take 0)).1).length 1)) := Lib.hid ⟨by rw [List.take_zero]; show World.cell? _ _ = some (.slice (some ⟨g0, 0, none⟩) 1 1); go_simp, by go_simp⟩
  have HO0 : Hid (OwnF (w1.alloc (.cells #[.slice (some ⟨g0, 0, none⟩) 1 1] 26)) (w.heap.size + 1) (.slice (some ⟨g0, 0, none⟩) ((soF (Fs.take 0)).1).length 1) vs0 ((soF (Fs.take 0)).1)) := Lib.hid (by rw [List.take_zero]; exact (hz0.below hL1).mono (by simp))
  have hz1 : w.heap.size < w1.heap.size := by have := hb1.size; simp at this; omega
  obtain ⟨B, hB⟩ : ∃ B, w1.heap.size = B := ⟨_, rfl⟩
  rw [hB] at HS0 hz1
  have HBE := Lib.hid hB
  clear hz0 hb1 hL1 b1 C0 HB0 HX0
  go_wp2
  go_loopw [16] (fun i wr => ∃ (k : Nat) (a : Option Addr) (c : Nat) (vs : List (Value × Value)), k ≤ Fs.length ∧ i = .int .i64 k ∧ Hid ((soF (Fs.take k)).2 = true) ∧ Hid (BoxAt wr B (.slice a ((soF (Fs.take k)).1).length c)) ∧ Hid (OwnF wr (w.heap.size + 1) (.slice a ((soF (Fs.take k)).1).length c) vs ((soF (Fs.take k)).1)) ∧
    Hid (BoxAt wr w.heap.size (.slice none 0 0)) ∧ Hid (Below w.heap.size w wr)) (fun i _ => Fs.length - (intOf i).toNat)
  case atStart => exact ⟨0, _, _, _, Nat.zero_le _, rfl, Lib.hid (by rw [List.take_zero]; rfl), HS0, HO0, HX1, HB1⟩
  case round =>
    obtain ⟨k, a, c, vs, hk, rfl, hyes, hbx, ho, hbr, hb⟩ := hrel
    clear HS0 HO0 HX1 HB1
    by_cases hlt : k < Fs.length
    · obtain ⟨f, hf⟩ := lt_get hlt
      obtain ⟨ao1, c1, e1, _, hnn⟩ := HV.out wr hb.out
      obtain ⟨b, off, vf, rfl, _, hbh, p1, i1⟩ := hnn k f hf
      obtain ⟨q1, q2, q3⟩ := slice_inj e1
      subst q1 q3
      clear q2 hnn e1
      obtain ⟨af, cf, hvf⟩ : ∃ a c, vf = .slice a f.length c := by obtain ⟨a, c, e, _⟩ := i1; exact ⟨a, c, e⟩
      subst hvf
      obtain ⟨r, hr⟩ : ∃ r, sumOk (soF (Fs.take k)).1 f = r := ⟨_, rfl⟩
      have HNX : Hid (r = true → soF (Fs.take (k + 1)) = (sumV (soF (Fs.take k)).1 f, true)) := Lib.hid (fun h => soF_yes hf hyes.out (by rw [hr]; exact h))
      have HNO : Hid (r = false → (soF Fs).2 = false) := Lib.hid (fun h => soF_no hf (by rw [hr]; exact h))
      obtain ⟨S, hS⟩ : ∃ S, (soF (Fs.take k)).1 = S := ⟨_, rfl⟩
      rw [hS] at hbx ho hr HNX
      obtain ⟨g2, hg2⟩ : ∃ g, sumV S f = g := ⟨_, rfl⟩
      rw [hg2] at HNX
      have hbs := hb.out.size
      have hBl := block_of_cell hbx.out.1
      have hal : Below wr.heap.size wr (wr.alloc (.cells #[.slice af f.length cf] 26)) := (Below.refl _ _).alloc (Nat.le_refl _) _
      have ka : (wr.alloc (.cells #[.slice af f.length cf] 26)).cell? ⟨B, 0, none⟩ = some (.slice a S.length c) := (bcell hal _ _ hBl).trans hbx.out.1
      have kb : (wr.alloc (.cells #[.slice af f.length cf] 26)).cell? ⟨wr.heap.size, 0, none⟩ = some (.slice af f.length cf) := by go_simp
      have hza : wr.heap.size < (wr.alloc (.cells #[.slice af f.length cf] 26)).heap.size := by simp
      have C := Lib.hid (sumI_calls (.slice a S.length c) (.slice af f.length cf) S f g2 r (Lib.hid hr) (Lib.hid hg2) (wr.alloc (.cells #[.slice af f.length cf] 26)) (w.heap.size + 1) _ lo hi (Nat.le_refl _) (by omega) (ho.out.below hal).nodesZ (i1.below hal (by omega)))
      have HAL := Lib.hid hal
      have k0 : (0 : Int) ≤ k := by omega
      have k1 : (k : Int) < Fs.length := by omega
      clear hf i1 hr hS hg2 hal
      go_wp2_with fail
      refine C.out.mono ?_
      rintro e w2 ⟨a2, c2, vs2, rfl, ho2, hb2⟩
      have hLn : Below w2.heap.size w2 (w2.alloc (.cells #[.slice a2 g2.length c2] 26)) := (Below.refl _ _).alloc (Nat.le_refl _) _
      have b2 := below_viaS (below_viaS HAL.out hb2) hLn
      have HB2 := Lib.hid (below_viaS hb.out b2)
      have HX2 := Lib.hid (hbr.out.below b2)
      obtain ⟨dB, zB⟩ := hbx.out.below b2
      have kn : (w2.alloc (.cells #[.slice a2 g2.length c2] 26)).cell? ⟨w2.heap.size, 0, none⟩ = some (.slice a2 g2.length c2) := by go_simp
      have HO2 := Lib.hid (ho2.below hLn)
      have s2 := hb2.size
      clear ho2 hb2 hLn b2 C HAL ka kb hbx ho hbr hb p1
      cases r with
      | false =>
        obtain rfl : ok = false := by rw [HS2.out]; exact HNO.out rfl
        obtain rfl : g = [] := by rw [HS1.out]; rfl
        obtain ⟨d1, z1⟩ := HX2.out
        have B4 := Lib.hid (HB2.out.setCell (p := ⟨w.heap.size, 0, none⟩) (Nat.le_refl _) (.slice none 0 0))
        have hcr := World.cell?_setCell_same (w2.alloc (.cells #[.slice a2 g2.length c2] 26)) ⟨w.heap.size, 0, none⟩ (.slice none 0 0) d1
        clear hyes HNX HNO
        go_wp2_with fail
        exact bodyPost_ret (v := .tuple #[.agg #[.slice none 0 0], .bool false]) (by simp [results, Tryz.results8, go_sem, hcr]) rfl (soPostI_none rfl B4.out)
      | true =>
        have hnx := HNX.out rfl
        have HY : Hid ((soF (Fs.take (k + 1))).2 = true) := Lib.hid (by rw [hnx])
        have HE : Hid ((soF (Fs.take (k + 1))).1 = g2) := Lib.hid (by rw [hnx])
        have O7 : Only (w2.alloc (.cells #[.slice a2 g2.length c2] 26)) ((w2.alloc (.cells #[.slice a2 g2.length c2] 26)).setCell ⟨B, 0, none⟩ (.slice a2 g2.length c2)) (fun b => b = B) := Only.of_set (F := fun b => b = B) (p := ⟨B, 0, none⟩) _ rfl
        have R1 : Hid (BoxAt ((w2.alloc (.cells #[.slice a2 g2.length c2] 26)).setCell ⟨B, 0, none⟩ (.slice a2 g2.length c2)) B (.slice a2 ((soF (Fs.take (k + 1))).1).length c2)) := Lib.hid (by rw [HE.out]; exact ⟨World.cell?_setCell_same _ _ _ dB, by rw [World.frozen?_setCell]; exact zB⟩)
        have R2 : Hid (OwnF ((w2.alloc (.cells #[.slice a2 g2.length c2] 26)).setCell ⟨B, 0, none⟩ (.slice a2 g2.length c2)) (w.heap.size + 1) (.slice a2 ((soF (Fs.take (k + 1))).1).length c2) vs2 ((soF (Fs.take (k + 1))).1)) := Lib.hid (by rw [HE.out]; exact (HO2.out.setCell (by show B < _; omega)).mono (by omega))
        have R3 := Lib.hid (HX2.out.only O7 (by omega))
        have R4 := Lib.hid (HB2.out.setCell (p := ⟨B, 0, none⟩) (by show w.heap.size ≤ B; omega) (.slice a2 g2.length c2))
        clear hnx HNX HNO HO2 HX2 HB2 O7 hyes
        go_wp2_with fail
        go_roundw
        case rel => exact ⟨k + 1, a2, c2, vs2, by omega, by go_num, HY, R1, R2, R3, R4⟩
        case measure => first | (simp [intOf]; done) | (simp [intOf]; omega)
    · have hke : k = Fs.length := by omega
      subst hke
      rw [List.take_length] at hyes hbx ho
      obtain rfl : ok = true := by rw [HS2.out]; exact hyes.out
      have hgS : g = (soF Fs).1 := HS1.out
      rw [← hgS] at hbx ho
      obtain ⟨d1, z1⟩ := hbr.out
      have hlt1 := block_of_cell d1
      have kB := hbx.out.1
      have HO3 : Hid (OwnF (wr.setCell ⟨w.heap.size, 0, none⟩ (.slice a g.length c)) w.heap.size (.slice a g.length c) vs g) := Lib.hid ((ho.out.setCell (by show w.heap.size < w.heap.size + 1; omega)).mono (by omega))
      have HB3 := Lib.hid (hb.out.setCell (p := ⟨w.heap.size, 0, none⟩) (Nat.le_refl _) (.slice a g.length c))
      have hcr := World.cell?_setCell_same wr ⟨w.heap.size, 0, none⟩ (.slice a g.length c) d1
      clear hyes hbx ho hbr hb hgS
      go_wp2_with fail
      exact bodyPost_ret (v := .tuple #[.agg #[.slice a g.length c], .bool true]) (by simp [results, Tryz.results8, go_sem, hcr]) rfl ⟨a, c, vs, rfl, HO3.out, HB3.out⟩
end

section
set_option linter.unusedVariables false
set_option linter.unusedSimpArgs false
open Go.RowKit

def SoPostS (w : World) (g : List Nz) (ok : Bool) (e : Ending) (w' : World) : Prop := ∃ a c, e = .returned (.tuple #[.agg #[.slice a g.length c], .bool ok]) ∧ NodesZ w' w.heap.size w'.heap.size (.slice a g.length c) g ∧ Below w.heap.size w w'
theorem soPostS_none {w w' : World} {e : Ending} (he : e = .returned (.tuple #[.agg #[.slice none 0 0], .bool false])) (hb : Below w.heap.size w w') : SoPostS w [] false e w' := ⟨none, 0, he, ⟨none, 0, rfl, by simp, fun j nd hj => by simp at hj⟩, hb⟩

theorem pairC_below {B b o : Nat} {v1 v2 : Value} {W w1 : World} (hb : Below W.heap.size W w1) (h : W.cell? ⟨B, 0, none⟩ = some v1 ∧ W.cell? ⟨b, o, none⟩ = some v2) : w1.cell? ⟨B, 0, none⟩ = some v1 ∧ w1.cell? ⟨b, o, none⟩ = some v2 :=
  ⟨(bcell hb _ _ (block_of_cell h.1)).trans h.1, (bcell hb _ _ (block_of_cell h.2)).trans h.2⟩

theorem pairC_re {B b q : Nat} {v1 v2 : Value} {W : World} {o o' : Obj} (h1 : B < W.heap.size) (h2 : b < W.heap.size) (h : (W.alloc o).cell? ⟨B, 0, none⟩ = some v1 ∧ (W.alloc o).cell? ⟨b, q, none⟩ = some v2) : (W.alloc o').cell? ⟨B, 0, none⟩ = some v1 ∧ (W.alloc o').cell? ⟨b, q, none⟩ = some v2 := by
  have b1 : Below W.heap.size W (W.alloc o) := (Below.refl _ _).alloc (Nat.le_refl _) _
  have b2 : Below W.heap.size W (W.alloc o') := (Below.refl _ _).alloc (Nat.le_refl _) _
  exact ⟨(bcell b2 _ _ h1).trans ((bcell b1 _ _ h1).symm.trans h.1), (bcell b2 _ _ h2).trans ((bcell b1 _ _ h2).symm.trans h.2)⟩

theorem pairC_set {B b o q : Nat} {v1 v2 u : Value} {W : World} (h1 : B ≠ q) (h2 : b ≠ q) (h : W.cell? ⟨B, 0, none⟩ = some v1 ∧ W.cell? ⟨b, o, none⟩ = some v2) : (W.setCell ⟨q, 0, none⟩ u).cell? ⟨B, 0, none⟩ = some v1 ∧ (W.setCell ⟨q, 0, none⟩ u).cell? ⟨b, o, none⟩ = some v2 :=
  ⟨(World.cell?_setCell_other _ _ _ _ (fun e => by injection e with e _ _; omega)).trans h.1, (World.cell?_setCell_other _ _ _ _ (fun e => by injection e with e _ _; omega)).trans h.2⟩

set_option maxRecDepth 100000 in
set_option maxHeartbeats 4000000 in
theorem sumOfS_calls (v : Value) (Fs : List (List Nz)) (g : List Nz) (ok : Bool) (hok : Hid (soOk Fs = ok)) (hg : Hid (soV Fs = g)) (w : World) (lo hi : Nat) (hh : hi ≤ w.heap.size) (hv : FormsZ w lo hi v Fs) :
    Calls Tryz.prog 6 #[v] w (SoPostS w g ok) := by
  have HV := Lib.hid fun (W : World) (hW : Below w.heap.size w W) => hv.below hW hh
  have hb0 : Below w.heap.size w (w.alloc (.cells #[.slice none 0 0] 26)) := (Below.refl _ _).alloc (Nat.le_refl _) _
  have hx0 : BoxAt (w.alloc (.cells #[.slice none 0 0] 26)) w.heap.size (.slice none 0 0) := ⟨by go_simp, by go_simp⟩
  have HB0 := Lib.hid hb0
  have HX0 := Lib.hid hx0
  obtain ⟨r0, hr0⟩ : ∃ r, alB 12 Fs = r := ⟨_, rfl⟩
  have CA := Lib.hid (l3All_calls v Fs 12 (by omega) r0 (Lib.hid hr0) (w.alloc (.cells #[.slice none 0 0] 26)) lo hi (by have := hb0.size; omega) (hv.below hb0 hh))
  have HR0 := Lib.hid hr0
  obtain ⟨av, cv, rfl⟩ : ∃ a c, v = .slice a Fs.length c := by obtain ⟨a, c, e, _⟩ := hv; exact ⟨a, c, e⟩
  clear hv hb0 hx0 hr0
  go_enter Tryz.func6, Tryz.ntmps6
  go_wp2_with fail
  refine CA.out.mono ?_
  rintro e w0 ⟨rfl, hb1⟩
  have HBa := Lib.hid (below_viaZ HB0.out hb1)
  have HXa := Lib.hid (HX0.out.below hb1)
  clear hb1 CA HB0 HX0
  cases r0 with
  | false =>
    obtain rfl : ok = false := by rw [← hok.out]; exact soOk_all HR0.out
    obtain rfl : g = [] := by rw [← hg.out, soV_no hok.out]
    obtain ⟨d1, z1⟩ := HXa.out
    have B4 := Lib.hid (HBa.out.setCell (p := ⟨w.heap.size, 0, none⟩) (Nat.le_refl _) (.slice none 0 0))
    have hcr := World.cell?_setCell_same w0 ⟨w.heap.size, 0, none⟩ (.slice none 0 0) d1
    go_wp2_with fail
    exact bodyPost_ret (v := .tuple #[.agg #[.slice none 0 0], .bool false]) (by simp [results, Tryz.results6, go_sem, hcr]) rfl (soPostS_none rfl B4.out)
  | true =>
    have hn := (alB_parts HR0.out).1
    have C0 := Lib.hid (zeroS_calls w0)
    have HS2 : Hid (ok = (soF Fs).2) := Lib.hid (by rw [← hok.out]; unfold soOk; rw [decide_eq_true hn, Bool.true_and])
    have HS1 : Hid (g = if ok then (soF Fs).1 else []) := Lib.hid (by
      cases ho : ok with
      | false => rw [← hg.out, soV_no (by rw [hok.out, ho])]; rfl
      | true => rw [← hg.out, soV_yes (by rw [hok.out, ho])]; rfl)
    have ez : (zeroD.map upN).length = 1 := rfl
    clear hok hg
    go_wp2_with fail
    refine C0.out.mono ?_
    rintro e w1 ⟨a0, c0, rfl, hz0, hb1⟩
    rw [ez]
    rw [ez] at hz0
    have hL1 : Below w1.heap.size w1 (w1.alloc (.cells #[.slice a0 1 c0] 26)) := (Below.refl _ _).alloc (Nat.le_refl _) _
    have b1 := below_viaZ hb1 hL1
    have HB1 := Lib.hid (below_viaZ HBa.out b1)
    have HX1 := Lib.hid (HXa.out.below b1)
    have HS0 : Hid (BoxAt (w1.alloc (.cells #[.slice a0 1 c0] 26)) w1.heap.size (.slice a0 ((soF (Fs.take 0)).1).length c0)) := Lib.hid ⟨by rw [List.take_zero]; show World.cell? _ _ = some (.slice a0 1 c0); go_simp, by go_simp⟩
    have hlt0 := block_of_cell HXa.out.1
    have hz1 : w.heap.size < w1.heap.size := by have := hb1.size; omega
    have HO0 : Hid (NodesZ (w1.alloc (.cells #[.slice a0 1 c0] 26)) (w.heap.size + 1) w1.heap.size (.slice a0 ((soF (Fs.take 0)).1).length c0) ((soF (Fs.take 0)).1)) := Lib.hid (by rw [List.take_zero]; exact (hz0.below hL1 (Nat.le_refl _)).wide (by omega) (Nat.le_refl _))
    obtain ⟨B, hB⟩ : ∃ B, w1.heap.size = B := ⟨_, rfl⟩
    rw [hB] at HS0 hz1 HO0
    have HBE := Lib.hid hB
    clear hz0 hb1 hL1 b1 C0 HBa HXa
    go_wp2
    go_loopw [5] (fun i wr => ∃ (k : Nat) (a : Option Addr) (c hi2 : Nat), k ≤ Fs.length ∧ i = .int .i64 k ∧ hi2 ≤ wr.heap.size ∧ Hid ((soF (Fs.take k)).2 = true) ∧ Hid (BoxAt wr B (.slice a ((soF (Fs.take k)).1).length c)) ∧ Hid (NodesZ wr (w.heap.size + 1) hi2 (.slice a ((soF (Fs.take k)).1).length c) ((soF (Fs.take k)).1)) ∧
      Hid (BoxAt wr w.heap.size (.slice none 0 0)) ∧ Hid (Below w.heap.size w wr)) (fun i _ => Fs.length - (intOf i).toNat)
    case atStart => exact ⟨0, _, _, _, Nat.zero_le _, rfl, by rw [← HBE.out]; simp, Lib.hid (by rw [List.take_zero]; rfl), HS0, HO0, HX1, HB1⟩
    case round =>
      obtain ⟨k, a, c, hi2, hk, rfl, hh2, hyes, hbx, ho, hbr, hb⟩ := hrel
      clear HS0 HO0 HX1 HB1
      by_cases hlt : k < Fs.length
      · obtain ⟨f, hf⟩ := lt_get hlt
        obtain ⟨ao1, c1, e1, _, hnn⟩ := HV.out wr hb.out
        obtain ⟨b, off, vf, rfl, _, hbh, p1, i1⟩ := hnn k f hf
        obtain ⟨q1, q2, q3⟩ := slice_inj e1
        subst q1 q3
        clear q2 hnn e1
        obtain ⟨af, cf, hvf⟩ : ∃ a c, vf = .slice a f.length c := by obtain ⟨a, c, e, _⟩ := i1; exact ⟨a, c, e⟩
        subst hvf
        obtain ⟨r, hr⟩ : ∃ r, sumOk (soF (Fs.take k)).1 f = r := ⟨_, rfl⟩
        have HNX : Hid (r = true → soF (Fs.take (k + 1)) = (sumV (soF (Fs.take k)).1 f, true)) := Lib.hid (fun h => soF_yes hf hyes.out (by rw [hr]; exact h))
        have HNO : Hid (r = false → (soF Fs).2 = false) := Lib.hid (fun h => soF_no hf (by rw [hr]; exact h))
        obtain ⟨S, hS⟩ : ∃ S, (soF (Fs.take k)).1 = S := ⟨_, rfl⟩
        rw [hS] at hbx ho hr HNX
        obtain ⟨g2, hg2⟩ : ∃ g, sumV S f = g := ⟨_, rfl⟩
        rw [hg2] at HNX
        have hbs := hb.out.size
        have hBl := block_of_cell hbx.out.1
        have C := Lib.hid fun (W : World) (hW : Below wr.heap.size wr W) => sumS_calls (.slice a S.length c) (.slice af f.length cf) S f g2 r (Lib.hid hr) (Lib.hid hg2) W (w.heap.size + 1) hi2 lo hi (by have := hW.size; omega) (by have := hW.size; omega) (ho.out.below hW hh2) (i1.below hW (by omega))
        have hpB := hbx.out.1
        have k0 : (0 : Int) ≤ k := by omega
        have k1 : (k : Int) < Fs.length := by omega
        have hbl := block_of_cell p1
        have hS0 : wr.drew.cell? ⟨B, 0, none⟩ = some (.slice a S.length c) ∧ wr.drew.cell? ⟨b, off + k, none⟩ = some (.slice af f.length cf) := ⟨hpB, p1⟩
        have bl0 : Below wr.heap.size wr wr.drew := below_drewN (Below.refl _ _) 1
        have bl1 := fun o => show Below wr.heap.size wr (wr.alloc o).drew from below_drewN ((Below.refl _ _).alloc (Nat.le_refl _) _) 1
        clear hf hr hS hg2
        go_wp2
        go_region_held3 (fun w' : World => w'.cell? ⟨B, 0, none⟩ = some (.slice a S.length c) ∧ w'.cell? ⟨b, off + k, none⟩ = some (.slice af f.length cf)) (first | exact hS0 | (go_split_ands; exact ⟨‹_›, ‹_›⟩) | (go_split_ands; exact pairC_below hb2 ⟨‹_›, ‹_›⟩) | (go_split_ands; exact pairC_below ((Below.refl _ _).alloc (Nat.le_refl _) _) ⟨‹_›, ‹_›⟩) | (go_split_ands; exact pairC_set (by omega) (by omega) ⟨‹_›, ‹_›⟩) | (go_split_ands; exact pairC_re (by have := HBW.out.size; omega) (by have := HBW.out.size; omega) ⟨‹_›, ‹_›⟩)) (first
          | (go_at_call 20; (with_reducible refine (C.out _ (bl1 _)).mono ?_); rintro e w2 ⟨a2, c2, rfl, hn2, hb2⟩; have kx := (bcell hb2 wr.heap.size 0 (by simp)).trans (show World.cell? _ _ = some (.slice none 0 0) by go_simp); have kf := (hb2.frozen (p := ⟨wr.heap.size, 0, none⟩) (by simp)).trans (show World.frozen? _ _ = false by go_simp); have HBW : Hid (Below wr.heap.size wr w2) := Lib.hid (below_viaZ (bl1 _) hb2))
          | (go_at_call 20; (with_reducible refine (C.out _ bl0).mono ?_); rintro e w2 ⟨a2, c2, rfl, hn2, hb2⟩; have HBW : Hid (Below wr.heap.size wr w2) := Lib.hid (below_viaZ bl0 hb2)))
        · have hbw := hb.out.size
          have hal : Below w2.heap.size w2 (w2.alloc (.cells #[.slice a2 g2.length c2] 26)) := (Below.refl _ _).alloc (Nat.le_refl _) _
          have HW3 := Lib.hid (below_viaZ HBW.out hal)
          have HN3 : Hid (NodesZ (w2.alloc (.cells #[.slice a2 g2.length c2] 26)) wr.heap.size w2.heap.size (.slice a2 g2.length c2) g2) := Lib.hid (hn2.below hal (Nat.le_refl _))
          have kz : (w2.alloc (.cells #[.slice a2 g2.length c2] 26)).cell? ⟨w2.heap.size, 0, none⟩ = some (.slice a2 g2.length c2) := by go_simp
          have hi3 : w2.heap.size ≤ (w2.alloc (.cells #[.slice a2 g2.length c2] 26)).heap.size := hal.size
          have hBlt : B < wr.heap.size := hBl
          clear hal
          have HB3 := Lib.hid (hb.out.trans (HW3.out.mono hbw))
          have HX3 := Lib.hid (hbr.out.below HW3.out)
          obtain ⟨dB, zB⟩ := hbx.out.below HW3.out
          have s3 := HW3.out.size
          go_upto_region 8 with fail
          generalize w2.alloc (.cells #[.slice a2 g2.length c2] 26) = W3 at HW3 HN3 kz HB3 HX3 dB zB s3 hi3 ⊢
          clear hbx ho hbr hb HW3 hpB p1 hS0 bl0 bl1 C hn2 hb2 HBW i1
          cases r with
          | false =>
            obtain rfl : ok = false := by rw [HS2.out]; exact HNO.out rfl
            obtain rfl : g = [] := by rw [HS1.out]; rfl
            obtain ⟨d1, z1⟩ := HX3.out
            have B4 := Lib.hid (HB3.out.setCell (p := ⟨w.heap.size, 0, none⟩) (Nat.le_refl _) (.slice none 0 0))
            have hcr := World.cell?_setCell_same W3 ⟨w.heap.size, 0, none⟩ (.slice none 0 0) d1
            clear hyes HNX HNO
            go_wp2_with fail
            exact bodyPost_ret (v := .tuple #[.agg #[.slice none 0 0], .bool false]) (by simp [results, Tryz.results6, go_sem, hcr]) rfl (soPostS_none rfl B4.out)
          | true =>
            have hnx := HNX.out rfl
            have HY : Hid ((soF (Fs.take (k + 1))).2 = true) := Lib.hid (by rw [hnx])
            have HE : Hid ((soF (Fs.take (k + 1))).1 = g2) := Lib.hid (by rw [hnx])
            have O7 : Only W3 (W3.setCell ⟨B, 0, none⟩ (.slice a2 g2.length c2)) (fun b => b = B) := Only.of_set (F := fun b => b = B) (p := ⟨B, 0, none⟩) _ rfl
            have R1 : Hid (BoxAt (W3.setCell ⟨B, 0, none⟩ (.slice a2 g2.length c2)) B (.slice a2 ((soF (Fs.take (k + 1))).1).length c2)) := Lib.hid (by rw [HE.out]; exact ⟨World.cell?_setCell_same _ _ _ dB, by rw [World.frozen?_setCell]; exact zB⟩)
            have R2 : Hid (NodesZ (W3.setCell ⟨B, 0, none⟩ (.slice a2 g2.length c2)) (w.heap.size + 1) (W3.setCell ⟨B, 0, none⟩ (.slice a2 g2.length c2)).heap.size (.slice a2 ((soF (Fs.take (k + 1))).1).length c2) ((soF (Fs.take (k + 1))).1)) := Lib.hid (by
              rw [HE.out]
              exact (NodesZ.keep HN3.out (fun b o h1 h2 => World.cell?_setCell_other _ _ _ _ (fun e => by injection e with e _ _; omega))).wide (by omega) (by simpa using hi3))
            have R3 := Lib.hid (HX3.out.only O7 (by omega))
            have R4 := Lib.hid (HB3.out.setCell (p := ⟨B, 0, none⟩) (by show w.heap.size ≤ B; omega) (.slice a2 g2.length c2))
            clear hnx HNX HNO HX3 HB3 O7 hyes HN3
            go_wp2_with fail
            go_roundw
            case rel => exact ⟨k + 1, a2, c2, _, by omega, by go_num, Nat.le_refl _, HY, R1, R2, R3, R4⟩
            case measure => first | (simp [intOf]; done) | (simp [intOf]; omega)
        · have hbw := hb.out.size
          have HW3 : Hid (Below wr.heap.size wr (w2.setCell ⟨wr.heap.size, 0, none⟩ (.slice a2 g2.length c2))) := Lib.hid (HBW.out.setCell (Nat.le_refl _) _)
          have HN3 : Hid (NodesZ (w2.setCell ⟨wr.heap.size, 0, none⟩ (.slice a2 g2.length c2)) (wr.heap.size + 1) w2.heap.size (.slice a2 g2.length c2) g2) := Lib.hid ((NodesZ.keep hn2 (fun b o h1 h2 => World.cell?_setCell_other _ _ _ _ (fun e => by injection e with e _ _; simp at h1; omega))).wide (by simp) (Nat.le_refl _))
          have kz : (w2.setCell ⟨wr.heap.size, 0, none⟩ (.slice a2 g2.length c2)).cell? ⟨wr.heap.size, 0, none⟩ = some (.slice a2 g2.length c2) := World.cell?_setCell_same _ _ _ kx
          have hi3 : w2.heap.size ≤ (w2.setCell ⟨wr.heap.size, 0, none⟩ (.slice a2 g2.length c2)).heap.size := by simp
          have hBlt : B < wr.heap.size := hBl
          clear kx kf
          have HB3 := Lib.hid (hb.out.trans (HW3.out.mono hbw))
          have HX3 := Lib.hid (hbr.out.below HW3.out)
          obtain ⟨dB, zB⟩ := hbx.out.below HW3.out
          have s3 := HW3.out.size
          go_upto_region 8 with fail
          generalize w2.setCell ⟨wr.heap.size, 0, none⟩ (.slice a2 g2.length c2) = W3 at HW3 HN3 kz HB3 HX3 dB zB s3 hi3 ⊢
          clear hbx ho hbr hb HW3 hpB p1 hS0 bl0 bl1 C hn2 hb2 HBW i1
          cases r with
          | false =>
            obtain rfl : ok = false := by rw [HS2.out]; exact HNO.out rfl
            obtain rfl : g = [] := by rw [HS1.out]; rfl
            obtain ⟨d1, z1⟩ := HX3.out
            have B4 := Lib.hid (HB3.out.setCell (p := ⟨w.heap.size, 0, none⟩) (Nat.le_refl _) (.slice none 0 0))
            have hcr := World.cell?_setCell_same W3 ⟨w.heap.size, 0, none⟩ (.slice none 0 0) d1
            clear hyes HNX HNO
            go_wp2_with fail
            exact bodyPost_ret (v := .tuple #[.agg #[.slice none 0 0], .bool false]) (by simp [results, Tryz.results6, go_sem, hcr]) rfl (soPostS_none rfl B4.out)
          | true =>
            have hnx := HNX.out rfl
            have HY : Hid ((soF (Fs.take (k + 1))).2 = true) := Lib.hid (by rw [hnx])
            have HE : Hid ((soF (Fs.take (k + 1))).1 = g2) := Lib.hid (by rw [hnx])
            have O7 : Only W3 (W3.setCell ⟨B, 0, none⟩ (.slice a2 g2.length c2)) (fun b => b = B) := Only.of_set (F := fun b => b = B) (p := ⟨B, 0, none⟩) _ rfl
            have R1 : Hid (BoxAt (W3.setCell ⟨B, 0, none⟩ (.slice a2 g2.length c2)) B (.slice a2 ((soF (Fs.take (k + 1))).1).length c2)) := Lib.hid (by rw [HE.out]; exact ⟨World.cell?_setCell_same _ _ _ dB, by rw [World.frozen?_setCell]; exact zB⟩)
            have R2 : Hid (NodesZ (W3.setCell ⟨B, 0, none⟩ (.slice a2 g2.length c2)) (w.heap.size + 1) (W3.setCell ⟨B, 0, none⟩ (.slice a2 g2.length c2)).heap.size (.slice a2 ((soF (Fs.take (k + 1))).1).length c2) ((soF (Fs.take (k + 1))).1)) := Lib.hid (by
              rw [HE.out]
              exact (NodesZ.keep HN3.out (fun b o h1 h2 => World.cell?_setCell_other _ _ _ _ (fun e => by injection e with e _ _; omega))).wide (by omega) (by simpa using hi3))
            have R3 := Lib.hid (HX3.out.only O7 (by omega))
            have R4 := Lib.hid (HB3.out.setCell (p := ⟨B, 0, none⟩) (by show w.heap.size ≤ B; omega) (.slice a2 g2.length c2))
            clear hnx HNX HNO HX3 HB3 O7 hyes HN3
            go_wp2_with fail
            go_roundw
            case rel => exact ⟨k + 1, a2, c2, _, by omega, by go_num, Nat.le_refl _, HY, R1, R2, R3, R4⟩
            case measure => first | (simp [intOf]; done) | (simp [intOf]; omega)
      · have hke : k = Fs.length := by omega
        subst hke
        rw [List.take_length] at hyes hbx ho
        obtain rfl : ok = true := by rw [HS2.out]; exact hyes.out
        have hgS : g = (soF Fs).1 := HS1.out
        rw [← hgS] at hbx ho
        obtain ⟨d1, z1⟩ := hbr.out
        have hlt1 := block_of_cell d1
        have kB := hbx.out.1
        have HN3 : Hid (NodesZ (wr.setCell ⟨w.heap.size, 0, none⟩ (.slice a g.length c)) w.heap.size (wr.setCell ⟨w.heap.size, 0, none⟩ (.slice a g.length c)).heap.size (.slice a g.length c) g) := Lib.hid ((NodesZ.keep ho.out (fun b o h1 h2 => World.cell?_setCell_other _ _ _ _ (fun e => by injection e with e _ _; omega))).wide (by omega) (by simpa using hh2))
        have HB3 := Lib.hid (hb.out.setCell (p := ⟨w.heap.size, 0, none⟩) (Nat.le_refl _) (.slice a g.length c))
        have hcr := World.cell?_setCell_same wr ⟨w.heap.size, 0, none⟩ (.slice a g.length c) d1
        clear hyes hbx ho hbr hb hgS
        go_wp2_with fail
        exact bodyPost_ret (v := .tuple #[.agg #[.slice a g.length c], .bool true]) (by simp [results, Tryz.results6, go_sem, hcr]) rfl ⟨a, c, rfl, HN3.out, HB3.out⟩
end

section
open Go.RowKit
set_option linter.unusedVariables false
set_option linter.unusedSimpArgs false

theorem infoFormA : (Tryz.prog.info? 26).map (fun i => (i.zero, i.size, i.bytes)) = some (some (.agg #[.slice none 0 0]), 1, 24) := by kernel_rfl

theorem OwnFS.put {w : World} {base j g c N : Nat} {ps : List (Value × List (Value × Value))} {Fs : List (List Nz)} {f : List Nz} {p : Value × List (Value × Value)} (h : OwnFS w base (.slice (some ⟨g, 0, none⟩) Fs.length c) ps Fs) (hj : j < Fs.length) (hf : OwnF w base p.1 p.2 f)
    (hN : ∀ b, AllF p b → N ≤ b) (hlt : ∀ b, AllFS (.slice (some ⟨g, 0, none⟩) Fs.length c) ps b → b < N) : OwnFS (w.setCell ⟨g, j, none⟩ p.1) base (.slice (some ⟨g, 0, none⟩) Fs.length c) (ps.set j p) (Fs.set j f) := by
  have s1 := World.ownsRow.stored h.row j p.1
  rw [← List.map_set] at s1
  have hv : (Value.slice (some ⟨g, 0, none⟩) Fs.length c).ownBlock = some g := rfl
  have hgN := hlt g (Or.inl hv)
  have ho : Only w (w.setCell ⟨g, j, none⟩ p.1) (fun b => b = g) := Only.of_set (F := fun b => b = g) (p := ⟨g, j, none⟩) p.1 rfl
  have hpl : ∀ (i : Nat) (q : Value × List (Value × Value)), ps[i]? = some q → ∀ b, AllF q b → b < N := fun i q hq b hb => hlt b (Or.inr ⟨i, q, hq, hb⟩)
  refine ⟨by rw [List.length_set]; exact s1.1, by rw [List.length_set, List.length_set]; exact h.len, fun i n0 q hi hq => ?_, fun i q hq => ?_, fun i k q r hne hq hr => ?_⟩
  · rcases set_get hi with ⟨e1, e2⟩ | ⟨hne, hi⟩
    · rcases set_get hq with ⟨_, e3⟩ | ⟨e, _⟩
      · rw [e2, e3]
        exact hf.apart ho (fun b hb e => by have := hN b hb; omega)
      · exact absurd e1 e
    · rcases set_get hq with ⟨e, _⟩ | ⟨_, hq⟩
      · exact absurd e hne
      · exact (h.each i n0 q hi hq).apart ho (fun b hb e => h.two i q hq b hb (by rw [hv, e]))
  · rcases set_get hq with ⟨_, e3⟩ | ⟨_, hq⟩
    · intro b hb e
      rw [e3] at hb
      rw [hv] at e
      injection e with e
      have := hN b hb
      omega
    · exact h.two i q hq
  · rcases set_get hq with ⟨e1, e2⟩ | ⟨h3, hq2⟩
    · rcases set_get hr with ⟨e3, _⟩ | ⟨h4, hr2⟩
      · exact absurd (e1.trans e3.symm) hne
      · intro b hb hb2
        rw [e2] at hb
        have := hN b hb
        have := hpl k r hr2 b hb2
        omega
    · rcases set_get hr with ⟨e3, e4⟩ | ⟨h4, hr2⟩
      · intro b hb hb2
        rw [e4] at hb2
        have := hN b hb2
        have := hpl i q hq2 b hb
        omega
      · exact h.sep i k q r hne hq2 hr2

theorem allF_nil (b : Nat) : ¬ AllF (.slice none 0 0, []) b := by
  rintro (h | ⟨i, p, h, _⟩)
  · cases h
  · simp at h

/-- a row of empty forms -/
theorem ownFS_made {w : World} {base g n : Nat} (h : w.ownsRow base 26 1 (.slice (some ⟨g, 0, none⟩) n n) n (List.replicate n (.slice none 0 0))) : OwnFS w base (.slice (some ⟨g, 0, none⟩) n n) (List.replicate n (.slice none 0 0, [])) (List.replicate n []) := by
  have hm : ∀ (j : Nat) (p : Value × List (Value × Value)), (List.replicate n ((.slice none 0 0, []) : Value × List (Value × Value)))[j]? = some p → p = (.slice none 0 0, []) := fun j p hp => (List.mem_replicate.1 (List.mem_of_getElem? hp)).2
  refine ⟨by rw [List.length_replicate, List.map_replicate]; exact h, by simp, fun j f p hf hp => ?_, fun j p hp b hb => ?_, fun i j p q _ hp _ b hb => ?_⟩
  · rw [hm j p hp, (List.mem_replicate.1 (List.mem_of_getElem? hf)).2]
    exact OwnF.nil _ _
  · rw [hm j p hp] at hb
    exact absurd hb (allF_nil b)
  · rw [hm i p hp] at hb
    exact absurd hb (allF_nil b)
end

section
section
open Go.RowKit
set_option linter.unusedVariables false
set_option linter.unusedSimpArgs false

set_option maxRecDepth 100000 in
set_option maxHeartbeats 1000000 in
theorem negI_calls (va : Value) (f g : List Nz) (ok : Bool) (hok : Hid (goodB f = ok)) (hg : Hid (negV f = g)) (w : World) (lo hi : Nat) (hh : hi ≤ w.heap.size) (hva : NodesZ w lo hi va f) :
    Calls Tryz.prog 32 #[.agg #[va]] w fun e w' => ∃ a c vs, e = .returned (.tuple #[.agg #[.slice a g.length c], .bool ok]) ∧ OwnF w' w.heap.size (.slice a g.length c) vs g ∧ Below w.heap.size w w' := by
  obtain ⟨iN, hiN, hzN0, hzN1, hzN2⟩ := info_parts infoNodeA
  have HB0 := Lib.hid fun o o' => show Below w.heap.size w ((w.alloc o).alloc o') from ((Below.refl _ _).alloc (Nat.le_refl _) _).alloc (by simp) _
  have CG := Lib.hid fun (W : World) (hW : Below w.heap.size w W) => goodI_res va f ok hok W lo hi (Nat.le_trans hh hW.size) (hva.below hW hh)
  have HVA := Lib.hid fun (W : World) (hW : Below w.heap.size w W) => hva.below hW hh
  obtain ⟨ao, c0, rfl⟩ : ∃ ao c, va = .slice ao f.length c := by obtain ⟨ao, c, e, _⟩ := hva; exact ⟨ao, c, e⟩
  clear hva
  go_enter Tryz.func32, Tryz.ntmps32
  go_wp2_with fail
  refine (CG.out _ (HB0.out _ _)).mono ?_
  rintro e w4 ⟨rfl, hb4⟩
  have k0 : w4.cell? ⟨w.heap.size, 0, none⟩ = some (.slice ao f.length c0) := (bcell hb4 _ _ (by simp; omega)).trans (by go_simp)
  obtain ⟨d0, z0⟩ : BoxAt w4 (w.heap.size + 1) (.slice none 0 0) := BoxAt.below ⟨by go_simp, by go_simp⟩ hb4
  have HB4 := Lib.hid (Below.trans (HB0.out _ _) (hb4.mono (by simp; omega)))
  have hlt := block_of_cell d0
  clear hb4 CG
  cases ok with
  | false =>
    obtain rfl : g = [] := by rw [← hg.out, negV_no hok.out]
    have B4 := Lib.hid (HB4.out.setCell (p := ⟨w.heap.size + 1, 0, none⟩) (by show w.heap.size ≤ w.heap.size + 1; omega) (.slice none 0 0))
    have hcr := World.cell?_setCell_same w4 ⟨w.heap.size + 1, 0, none⟩ (.slice none 0 0) d0
    go_wp2_with fail
    exact bodyPost_ret (v := .tuple #[.agg #[.slice none 0 0], .bool false]) (by simp [results, Tryz.results32, go_sem, hcr]) rfl ⟨none, 0, [], rfl, OwnF.nil _ _, B4.out⟩
  | true =>
    obtain ⟨hf1, hf2, hf3, hf4⟩ := (goodB_iff f).1 hok.out
    have hfl := hf1.2.1
    have HU := Lib.hid hf2.up.2.under
    have HUP := Lib.hid hf2.up.1
    have HUS := Lib.hid hf4
    have HSM := Lib.hid hf1.2.2
    have hpos := hf1.1
    have HGV : Hid ((formM (swapN (f.map downN))).map upN = g) := Lib.hid (by rw [← hg.out, negV_yes hok.out])
    have HFT := Lib.hid (neg_fits f hok.out)
    clear hf1 hf2 hf3 hf4 hok hg
    go_wp2_with (at_make; refine wpList_make_full _ rfl _ _ 24 rfl w4.heap.size 57 iN (.agg #[.slice none 0 0, .slice none 0 0]) 2 Tryz.underlying24 hiN hzN0 hzN1 _ _ _ _ f.length rfl rfl (by first | rfl | (simp; done)) (by first | rfl | (simp; done)) (by rw [hzN2]; omega) (by unfold maxLen; omega) (Nat.le_refl _) ?_; intro w5 hown hgr; have hb45 : Below w4.heap.size w4 w5 := (Below.refl _ _).grown hgr (Nat.le_refl _) (fun k hk => by cases hk); have k5 := (bcell hb45 _ _ (block_of_cell k0)).trans k0)
    have HR := Lib.hid (RowZ.made (F := (swapN (f.map downN)).map upN) hown)
    have HB5 := Lib.hid (HB4.out.trans (hb45.mono HB4.out.size))
    have b5 : BoxAt w5 (w.heap.size + 1) (.slice none 0 0) := BoxAt.below ⟨d0, z0⟩ hb45
    have hgw := (World.ownsRow.lt hown _ rfl).2
    have hs4 := HB4.out.size
    have HX5 := Lib.hid b5
    clear hown hgr hb45 k0 d0 z0 b5 HB4
    go_wp2
    go_loopw [18] (fun i wr => ∃ (k : Nat) (vs : List (Value × Value)), k ≤ f.length ∧ i = .int .i64 k ∧ Hid (RowZ wr w4.heap.size w4.heap.size f.length vs ((swapN (f.map downN)).map upN) k) ∧ Hid (Below w.heap.size w wr) ∧ Hid (BoxAt wr (w.heap.size + 1) (.slice none 0 0)) ∧ w4.heap.size < wr.heap.size) (fun i _ => f.length - (intOf i).toNat)
    case atStart => exact ⟨0, _, Nat.zero_le _, rfl, HR, HB5, HX5, hgw⟩
    case round =>
      obtain ⟨k, vs, hk, rfl, hr, hb, hx, hs⟩ := hrel
      clear HR HB5 HX5
      by_cases hlt2 : k < f.length
      · obtain ⟨nd, hnd⟩ := lt_get (l := f.map downN) (i := k) (by simpa using hlt2)
        obtain ⟨b, off, cc, v1, v2, e, hbh, p1, p2, i1, i2⟩ := nodes_atP (by rw [HUP.out]; exact HVA.out wr hb.out) hnd
        rw [show (f.map downN).length = f.length from by simp] at e
        obtain ⟨q1, q2, q3⟩ := slice_inj e
        clear q2
        subst q1 q3
        obtain ⟨a1, d1, rfl, hd1⟩ := ints_lenP i1
        obtain ⟨a2, d2, rfl, hd2⟩ := ints_lenP i2
        obtain ⟨po, hpo, m1, m2, mf1, mf2⟩ := hr.out.cells hlt2
        have hs5 := hb.out.size
        have X1 : IntsX wr w4.heap.size (.slice a1 nd.1.length d1) (upL nd.1) := ⟨lo, hi, Nat.le_trans hh hs5, Or.inr (by omega), i1⟩
        have X2 : IntsX wr w4.heap.size (.slice a2 nd.2.length d2) (upL nd.2) := ⟨lo, hi, Nat.le_trans hh hs5, Or.inr (by omega), i2⟩
        have ho1 : Only wr ((wr.setCell ⟨w4.heap.size, k * 2, none⟩ (.slice a2 nd.2.length d2)).setCell ⟨w4.heap.size, k * 2 + 1, none⟩ (.slice a1 nd.1.length d1)) (fun q => q = w4.heap.size) := (Only.of_set (F := fun q => q = w4.heap.size) (p := ⟨w4.heap.size, k * 2, none⟩) _ rfl).trans (Only.of_set (F := fun q => q = w4.heap.size) (p := ⟨w4.heap.size, k * 2 + 1, none⟩) _ rfl) (fun _ _ h => h)
        have hal : RowKit.Below ((wr.setCell ⟨w4.heap.size, k * 2, none⟩ (.slice a2 nd.2.length d2)).setCell ⟨w4.heap.size, k * 2 + 1, none⟩ (.slice a1 nd.1.length d1)).heap.size ((wr.setCell ⟨w4.heap.size, k * 2, none⟩ (.slice a2 nd.2.length d2)).setCell ⟨w4.heap.size, k * 2 + 1, none⟩ (.slice a1 nd.1.length d1)) (((wr.setCell ⟨w4.heap.size, k * 2, none⟩ (.slice a2 nd.2.length d2)).setCell ⟨w4.heap.size, k * 2 + 1, none⟩ (.slice a1 nd.1.length d1)).alloc (.cells #[.slice a1 nd.1.length d1, .slice a2 nd.2.length d2] 57)) := (RowKit.Below.refl _ _).alloc (Nat.le_refl _) _
        have R3 := Lib.hid ((hr.out.set (k := k) (nd := upN (nd.2, nd.1)) (p := (.slice a2 nd.2.length d2, .slice a1 nd.1.length d1)) hlt2 (by rw [List.getElem?_map, swapN_at hnd]; rfl) X2 X1).below hal)
        have ho : Only wr (((wr.setCell ⟨w4.heap.size, k * 2, none⟩ (.slice a2 nd.2.length d2)).setCell ⟨w4.heap.size, k * 2 + 1, none⟩ (.slice a1 nd.1.length d1)).alloc (.cells #[.slice a1 nd.1.length d1, .slice a2 nd.2.length d2] 57)) (fun q => q = w4.heap.size) := ho1.trans (Only.of_below hal) (fun _ _ h => h)
        have B3 := Lib.hid (hb.out.trans (ho.below hs5 (fun q e => by omega)))
        have X3 := Lib.hid (hx.out.only ho (by omega))
        have S3 := ho.size
        have k0 : (0 : Int) ≤ k := by omega
        have k1 : (k : Int) < f.length := by omega
        clear e i1 i2 X1 X2 hal ho ho1 hr hb hx hnd hpo
        go_wp2
        go_roundw
        case rel => exact ⟨k + 1, _, by omega, by go_num, R3, B3, X3, by omega⟩
        case measure => first | (simp [intOf]; done) | (simp [intOf]; omega)
      · have hke : k = f.length := by omega
        subst hke
        have hsl : (swapN (f.map downN)).length = f.length := by rw [swapN_len, List.length_map]
        have C := Lib.hid (formOf_calls (.slice (some ⟨w4.heap.size, 0, none⟩) f.length f.length) (swapN (f.map downN)) g true wr 0 wr.heap.size (Nat.le_refl _) (hr.out.nodesZ (by rw [List.length_map, hsl])) (swapN_under HU.out) (by omega) (swapN_reach HU.out HUS.out) (by omega) (fun nd hnd => by
          unfold swapN at hnd
          rw [List.map_map] at hnd
          obtain ⟨x, hx, rfl⟩ := List.mem_map.1 hnd
          have := HSM.out x hx
          simp only [Function.comp, downN, downL, List.length_map]
          omega) HFT (Lib.hid (by rw [outV_yes HFT.out, HGV.out])))
        have hbx := hx.out
        have hsb := hb.out.size
        have HB := Lib.hid hb.out
        clear hr hb hsl
        go_wp2_with fail
        refine C.out.mono ?_
        rintro e w6 ⟨a, c, vs6, rfl, ho6, hb6⟩
        obtain ⟨d6, z6⟩ : BoxAt w6 (w.heap.size + 1) (.slice none 0 0) := BoxAt.below hbx hb6
        have HO : Hid (OwnF (w6.setCell ⟨w.heap.size + 1, 0, none⟩ (.slice a g.length c)) w.heap.size (.slice a g.length c) vs6 g) := Lib.hid ((ho6.setCell (by show w.heap.size + 1 < wr.heap.size; omega)).mono hsb)
        have HB6 : Hid (RowKit.Below w.heap.size w (w6.setCell ⟨w.heap.size + 1, 0, none⟩ (.slice a g.length c))) := Lib.hid ((HB.out.trans (hb6.mono hsb)).setCell (by show w.heap.size ≤ w.heap.size + 1; omega) _)
        have hcr := World.cell?_setCell_same w6 ⟨w.heap.size + 1, 0, none⟩ (.slice a g.length c) d6
        clear ho6 hb6 hbx C
        go_wp2_with fail
        exact bodyPost_ret (v := .tuple #[.agg #[.slice a g.length c], .bool true]) (by simp [results, Tryz.results32, go_sem, hcr]) rfl ⟨a, c, vs6, rfl, HO.out, HB6.out⟩
end
end

section
section
open Go.RowKit
set_option linter.unusedVariables false
set_option linter.unusedSimpArgs false

set_option maxRecDepth 100000 in
set_option maxHeartbeats 8000000 in
theorem l5Neg_calls (vf : Value) (f : List Nd) (w : World) (lo hi : Nat) (hh : hi ≤ w.heap.size) (hv : NodesZ w lo hi vf (f.map upN)) (hf : Under f) (h0 : 0 < f.length) (hn : f.length ≤ 90000) (hl : ∀ nd ∈ f, nd.1.length ≤ 90000 ∧ nd.2.length ≤ 90000) :
    Calls Tryz.prog 29 #[.agg #[vf]] w fun e w' => ∃ v, e = .returned (.agg #[v]) ∧ NodesZ w' w.heap.size w'.heap.size v ((formM (swapN f)).map upN) ∧ Below w.heap.size w w' := by
  have HV := Lib.hid fun (W : World) (hW : Below w.heap.size w W) => hv.below hW hh
  have HF := Lib.hid hf
  have HL := Lib.hid hl
  have hfs := swapN_under hf
  have HFS := Lib.hid hfs
  have hsl := swapN_len f
  have HSL := Lib.hid hsl
  obtain ⟨aof, cof, hvs⟩ : ∃ a c, vf = .slice a f.length c := by obtain ⟨a, c, e, _⟩ := hv; exact ⟨a, c, by rw [e]; simp⟩
  subst hvs
  have e0 : ((w.alloc (.cells #[.slice aof f.length cof] 26)).alloc (.cells #[.slice none 0 0] 26)).heap.size = w.heap.size + 2 := by simp
  have hst := BkAt.start ((w.alloc (.cells #[.slice aof f.length cof] 26)).alloc (.cells #[.slice none 0 0] 26))
  rw [e0] at hst
  have HST := Lib.hid hst
  have HB0 : Hid (Below w.heap.size w ((((w.alloc (.cells #[.slice aof f.length cof] 26)).alloc (.cells #[.slice none 0 0] 26)).alloc (.cells #[.slice none 0 0, .slice none 0 0] 68)).alloc (.cells #[] 3))) :=
    Lib.hid (((((Below.refl _ _).alloc (Nat.le_refl _) _).alloc (by simp) _).alloc (by simp; omega) _).alloc (by simp; omega) _)
  clear hl hf hfs hv hst e0
  go_enter Tryz.func29, Tryz.ntmps29
  go_wp2
  go_loopw [4, 5] (fun q i wr => ∃ (k ga ca : Nat) (vn vb : Value) (vs : List (Value × Value)), k ≤ f.length ∧ i = .int .i64 k ∧ q = .slice (some ⟨ga, 0, none⟩) k ca ∧ Hid (BkAt (w.heap.size + 2) wr ((swapN f).take k) ga ca vn vb vs) ∧
      Hid (Below w.heap.size w wr) ∧ Hid (BoxAt wr (w.heap.size + 1) (.slice none 0 0)) ∧ wr.cell? ⟨w.heap.size, 0, none⟩ = some (.slice aof f.length cof)) (fun _ i _ => f.length - (intOf i).toNat)
  case atStart => exact ⟨0, w.heap.size + 2 + 1, 0, _, _, _, Nat.zero_le _, rfl, rfl, by rw [List.take_zero]; exact HST, HB0, Lib.hid ⟨by go_simp, by go_simp⟩, by go_simp⟩
  case round =>
    obtain ⟨k, ga, ca, vn, vb, vs, hk, rfl, rfl, hK, hb, hx, hbox⟩ := hrel
    clear HST HB0
    by_cases hlt : k < f.length
    · obtain ⟨nd, hnd⟩ := lt_get hlt
      obtain ⟨b, off, cc, v1, v2, e, hbh, p1, p2, i1, i2⟩ := nodes_atP (HV.out wr hb.out) hnd
      obtain ⟨q1, q2, q3⟩ := slice_inj e
      clear q2
      subst q1 q3
      have hsw : (swapN f)[k]? = some (nd.2, nd.1) := swapN_at hnd
      have HTS := Lib.hid (take_snoc' hsw)
      have htl : ((swapN f).take k).length = k := by rw [List.length_take, HSL.out]; omega
      have HTU := Lib.hid (under_take HFS.out k)
      have hnn := HL.out nd (List.mem_of_getElem? hnd)
      have hux := HF.out k nd hnd
      have hbs := hb.out.size
      have hks := hK.out.size
      have hga := hK.out.lt
      obtain ⟨P, hP⟩ : ∃ P, (swapN f).take k = P := ⟨_, rfl⟩
      rw [hP] at hK htl HTS HTU
      have C1 := Lib.hid fun (W : World) (hW : RowKit.Below wr.heap.size wr W) => hK.out.l3At_calls (by omega) W hW v2 nd.2 lo hi (by have := hW.size; omega) (i2.below hW (by omega)) hnn.2 (fun x hx => by rw [htl]; exact hux x (Or.inr hx))
      have C2 := Lib.hid fun (W : World) (hW : RowKit.Below wr.heap.size wr W) => hK.out.l3At_calls (by omega) W hW v1 nd.1 lo hi (by have := hW.size; omega) (i1.below hW (by omega)) hnn.1 (fun x hx => by rw [htl]; exact hux x (Or.inl hx))
      have C3 := Lib.hid fun (W : World) (hW : RowKit.Below wr.heap.size wr W) (vl vr : Value) (l1 h1 l2 h2 : Nat) (hh1 : h1 ≤ W.heap.size) (hh2 : h2 ≤ W.heap.size) hvl hvr => hK.out.put_calls HTU.out (by omega) W hW vl vr nd.2 nd.1 l1 h1 l2 h2 hh1 hh2 hvl hvr (fun x hx => by rw [htl]; exact hux x (Or.inr hx)) (fun x hx => by rw [htl]; exact hux x (Or.inl hx)) hnn.2 hnn.1
      have HOWN := Lib.hid hK.out.own
      rw [htl] at C1 C2 HOWN
      obtain ⟨su, hsu⟩ : ∃ su, seatAt P nd.2 nd.1 = su := ⟨_, rfl⟩
      rw [hsu] at C3
      have HSU := Lib.hid hsu
      have HTL := Lib.hid htl
      have HPP := Lib.hid hP
      have hnf := Lib.hid hK.out.nf
      have HOW := Lib.hid fun (W : World) (hW : RowKit.Below wr.heap.size wr W) => own_only HOWN.out (Only.of_below (F := fun _ => False) hW) (fun _ _ => id)
      have hbd : Hid (RowKit.Below wr.heap.size wr wr.drew) := Lib.hid (below_drewN (RowKit.Below.refl _ _) 1)
      have nb0 : Hid (¬ Foot (w.heap.size + 2) vn vb w.heap.size) := Lib.hid (fun hF => by have := (hK.out.bk.lt _ hF).1; omega)
      have nb1 : Hid (¬ Foot (w.heap.size + 2) vn vb b) := Lib.hid (fun hF => by have := (hK.out.bk.lt _ hF).1; omega)
      have hS0 : AddS w.heap.size b (off + k * 2) (.slice (some ⟨b, off, none⟩) f.length cof) v1 v2 wr.drew := ⟨hbox, p1, p2⟩
      have b0 : (0 : Int) ≤ k := by omega
      have b1 : (k : Int) < f.length := by omega
      obtain ⟨ar1, nr1, cr1, hvr1⟩ : ∃ a n c, v1 = .slice a n c := by obtain ⟨a, c, e, _⟩ := i1; exact ⟨a, _, c, e⟩
      obtain ⟨ar2, nr2, cr2, hvr2⟩ : ∃ a n c, v2 = .slice a n c := by obtain ⟨a, c, e, _⟩ := i2; exact ⟨a, _, c, e⟩
      subst hvr1 hvr2
      clear e i1 i2 hnd hsw htl hsu hP hnn hux
      go_wp2
      go_region_held3 (fun w' : World => w'.cell? ⟨w.heap.size, 0, none⟩ = some (.slice (some ⟨b, off, none⟩) f.length cof) ∧ w'.cell? ⟨b, off + k * 2, none⟩ = some (.slice ar1 nr1 cr1) ∧ w'.cell? ⟨b, off + k * 2 + 1, none⟩ = some (.slice ar2 nr2 cr2)) (first | exact hS0 | (go_split_ands; exact ⟨‹_›, ‹_›, ‹_›⟩) | (go_split_ands; exact addS_only HAPP.out (by omega) (by omega) ⟨‹_›, ‹_›, ‹_›⟩) | (go_split_ands; exact addS_below ((RowKit.Below.refl _ _).alloc (Nat.le_refl _) _) ⟨‹_›, ‹_›, ‹_›⟩) | (go_split_ands; exact addS_only ho6 nb0.out nb1.out ⟨‹_›, ‹_›, ‹_›⟩) | (go_split_ands; exact addS_below hb5 ⟨‹_›, ‹_›, ‹_›⟩) | (go_split_ands; exact addS_below hb4 ⟨‹_›, ‹_›, ‹_›⟩)) (first
        | (go_at_call 48; (with_reducible refine (C3.out w5 HB5 _ _ _ _ _ _ (Nat.le_refl _) (Nat.le_refl _) (hi1.below hb5 (Nat.le_refl _) |>.wide (Nat.le_refl _) hb5.size) hi2).mono ?_); rintro e w6 ⟨rfl, vn', vb', vs', hK6, ho6, hf6⟩)
        | (go_at_call 49; (with_reducible refine (C1.out _ hbd.out).mono ?_); rintro e w4 ⟨g1, c1, rfl, hi1, hb4⟩; have HB4 : RowKit.Below wr.heap.size wr w4 := hbd.out.trans hb4)
        | (go_at_call 49; (with_reducible refine (C2.out w4 HB4).mono ?_); rintro e w5 ⟨g2, c2, rfl, hi2, hb5⟩; have HB5 : RowKit.Below wr.heap.size wr w5 := HB4.trans (hb5.mono HB4.size); have HO6 := HOW.out w5 HB5)
        | (refine step_app_at rfl _ _ rfl (World.ownsRow.alloc (own_only HO6 ho6 (fun g e => by injection e with e; subst e; exact hnf.out)) _) rfl (B := w6.heap.size) (u := su) (by go_simp) rfl (by omega) (by simp; have := ho6.size; have := HB5.size; omega) ?_; intro v7 w7 hown7 hgrow7 hat7; have HAPP : Hid (Only _ w7 (fun g => g = ga)) := Lib.hid (Only.of_grown hgrow7 (fun g e => by injection e with e; exact e.symm))))
      all_goals
        obtain ⟨g7, c7, rfl, HK7, HO7, HB7⟩ := hK.out.next HB5 hK6 ho6 hf6 (by rw [HTL.out, HSU.out]; exact hown7) (by rw [HTL.out, HSU.out]; exact hgrow7) (by rw [HTL.out, HSU.out]; exact hat7)
        rw [HTL.out]
        have K7 : Hid (BkAt (w.heap.size + 2) w7 ((swapN f).take (k + 1)) g7 c7 vn' vb' vs') := Lib.hid (by rw [HTS.out]; exact HK7.out)
        have B7 : Hid (RowKit.Below w.heap.size w w7) := Lib.hid (hb.out.trans (HB7.out.mono (by omega)))
        have hwlt := block_of_cell hbox
        have X7 : Hid (BoxAt w7 (w.heap.size + 1) (.slice none 0 0)) := Lib.hid (hx.out.only HO7.out (fun h => by
          rcases h with h | h
          · have := (hK.out.bk.lt _ h).1; omega
          · omega))
        have hbox7 := (HO7.out.cell (o := 0) hwlt (fun h => by
          rcases h with h | h
          · exact nb0.out h
          · omega)).trans hbox
        clear hown7 hgrow7 hat7 HAPP hK6 ho6 hf6 HK7 HO7 HB7 hb hx hK hS0 hbox p1 p2
        go_wp2
        go_roundw
        case rel => exact ⟨k + 1, g7, c7, vn', vb', vs', by omega, by go_num, rfl, K7, B7, X7, hbox7⟩
        case measure => simp [intOf]; omega
    · have hkl : k = f.length := by omega
      subst hkl
      rw [show (swapN f).take f.length = swapN f from List.take_of_length_le (by rw [HSL.out]; omega)] at hK
      obtain ⟨z, hz⟩ := lt_get (l := (addF [] (swapN f)).2) (i := f.length - 1) (by rw [at_len, HSL.out]; omega)
      have HZ : Hid ((addF [] (swapN f)).2.getD ((swapN f).length - 1) 0 = z) := Lib.hid (by rw [HSL.out, List.getD_eq_getElem?_getD, hz]; rfl)
      have hbk := (addF_added [] book_nil (swapN f) HFS.out).book
      have hzl : z < (addF [] (swapN f)).1.length := by
        rw [← HZ.out]
        exact at_lt' _ HFS.out _ (by rw [HSL.out]; omega)
      have hal := (addF_len [] (swapN f)).2
      have hown := hK.out.own
      rw [HSL.out] at hown hal
      have hcz : wr.cell? ⟨ga, f.length - 1, none⟩ = some (.int .i64 (z : Int)) := by
        rw [World.ownsRow.cellAt hown (f.length - 1) (by omega), List.getElem?_map, hz]
        rfl
      have CF := Lib.hid (form_calls (w.heap.size + 2) (w.heap.size + 2) (addF [] (swapN f)).1 vn vb vs (fun g => g = ga) z wr hK.out.bk hbk hzl (by simp at hal; omega))
      have HFI := Lib.hid (form_is (swapN f))
      rw [HZ.out] at HFI
      rw [HFI.out] at CF
      obtain ⟨G, hG⟩ : ∃ G, (formM (swapN f)).map upN = G := ⟨_, rfl⟩
      rw [hG] at CF
      have HGG := Lib.hid hG
      have hn1 : IntKind.i64.wrap ((f.length : Int) - 1) = (f.length : Int) - 1 := IntWalk.i64_in _ (by omega)
      have hn2 : (0 : Int) ≤ (f.length : Int) - 1 := by omega
      have hn3 : (f.length : Int) - 1 < f.length := by omega
      have hn4 : ((f.length : Int) - 1).toNat = f.length - 1 := by omega
      have hbs := hb.out.size
      have hlt1 := block_of_cell hx.out.1
      clear hz hzl hbk hal hown hK hG
      go_wp2_with fail
      refine CF.out.mono ?_
      rintro e w5 ⟨v, rfl, hn5, hb5⟩
      obtain ⟨d5, z5⟩ := hx.out.below hb5
      have HB5 : Hid (RowKit.Below w.heap.size w (w5.setCell ⟨w.heap.size + 1, 0, none⟩ v)) := Lib.hid ((hb.out.trans (hb5.mono hbs)).setCell (by show w.heap.size ≤ w.heap.size + 1; omega) _)
      have HN : Hid (NodesZ (w5.setCell ⟨w.heap.size + 1, 0, none⟩ v) w.heap.size (w5.setCell ⟨w.heap.size + 1, 0, none⟩ v).heap.size v G) := Lib.hid ((NodesZ.keep hn5 (fun b o h1 h2 => World.cell?_setCell_other _ _ _ _ (fun e => by injection e with e _ _; omega))).wide hbs (by simp))
      have hcr := World.cell?_setCell_same w5 ⟨w.heap.size + 1, 0, none⟩ v d5
      obtain ⟨av, cv, rfl, _⟩ := (show ∃ a c, v = .slice a G.length c ∧ True from by obtain ⟨a, c, e, _⟩ := hn5; exact ⟨a, c, e, trivial⟩)
      clear hn5 hb5 CF hx hb
      go_wp2_with fail
      refine bodyPost_ret (v := .agg #[.slice av G.length cv]) (by simp [results, Tryz.results29, go_sem, hcr]) rfl ?_
      rw [HGG.out]
      exact ⟨_, rfl, HN.out, HB5.out⟩
end
end

section
set_option linter.unusedVariables false
set_option linter.unusedSimpArgs false

/-- the game, or its negative -/
def tmF (n : Int) (f : List Nz) : List Nz := if n < 0 then negV f else f
/-- that often -/
def tmL (n : Int) (f : List Nz) : List (List Nz) := List.replicate n.natAbs (tmF n f)
/-- can it be taken that often? -/
def tmIn (n : Int) (f : List Nz) : Bool := decide (-12 ≤ n ∧ n ≤ 12) && goodB f
def tmOk (n : Int) (f : List Nz) : Bool := tmIn n f && soOk (tmL n f)
def tmV (n : Int) (f : List Nz) : List Nz := if tmIn n f then soV (tmL n f) else []
theorem tmV_no {n : Int} {f : List Nz} (h : tmIn n f = false) : tmV n f = [] := by unfold tmV; rw [h]; rfl
theorem tmOk_no {n : Int} {f : List Nz} (h : tmIn n f = false) : tmOk n f = false := by unfold tmOk; rw [h]; rfl
theorem tmV_yes {n : Int} {f : List Nz} (h : tmIn n f = true) : tmV n f = soV (tmL n f) := by unfold tmV; rw [h]; rfl
theorem tmOk_yes {n : Int} {f : List Nz} (h : tmIn n f = true) : tmOk n f = soOk (tmL n f) := by unfold tmOk; rw [h]; rfl
theorem tmIn_iff (n : Int) (f : List Nz) : tmIn n f = true ↔ (-12 ≤ n ∧ n ≤ 12) ∧ goodB f = true := by
  unfold tmIn
  rw [Bool.and_eq_true, decide_eq_true_eq]
theorem tmIn_far {n : Int} {f : List Nz} (h : n < -12 ∨ 12 < n) : tmIn n f = false := by
  cases e : tmIn n f with
  | false => rfl
  | true => have := ((tmIn_iff n f).1 e).1; omega
theorem tmIn_bad {n : Int} {f : List Nz} (h : goodB f = false) : tmIn n f = false := by
  cases e : tmIn n f with
  | false => rfl
  | true => have := ((tmIn_iff n f).1 e).2; rw [h] at this; cases this
theorem tmL_neg {n : Int} {f g : List Nz} {k : Nat} (h : n < 0) (hg : negV f = g) (hk : -n = k) : tmL n f = List.replicate k g := by
  unfold tmL tmF
  rw [if_pos h, hg, show n.natAbs = k by omega]
theorem tmL_pos {n : Int} {f : List Nz} {k : Nat} (h : ¬ n < 0) (hk : n = k) : tmL n f = List.replicate k f := by
  unfold tmL tmF
  rw [if_neg h, show n.natAbs = k by omega]
theorem tmV_sz (n : Int) (f : List Nz) : ((tmV n f).map szN).sum ≤ 5760 := by
  cases h : tmIn n f with
  | false => rw [tmV_no h]; simp
  | true => rw [tmV_yes h]; exact soV_sz _
end

section
set_option linter.unusedVariables false
set_option linter.unusedSimpArgs false
open Go.RowKit

/-- twelve forms' room, the first k filled -/
def RoomF (w : World) (B k : Nat) (vF : Value) : Prop := ∀ i, i < 12 → w.cell? ⟨B, i, none⟩ = some (if i < k then vF else .slice none 0 0) ∧ w.frozen? ⟨B, i, none⟩ = false
theorem RoomF.below {w w' : World} {B k : Nat} {vF : Value} (h : RoomF w B k vF) (hb : Below w.heap.size w w') : RoomF w' B k vF := fun i hi =>
  have hl := block_of_cell (h i hi).1
  ⟨(bcell hb _ _ hl).trans (h i hi).1, (hb.frozen (p := ⟨B, i, none⟩) hl).trans (h i hi).2⟩
theorem RoomF.next {w : World} {B k : Nat} {vF : Value} (h : RoomF w B k vF) (hk : k < 12) : RoomF (w.setCell ⟨B, k, none⟩ vF) B (k + 1) vF := fun i hi => by
  refine ⟨?_, by rw [World.frozen?_setCell]; exact (h i hi).2⟩
  by_cases e : i = k
  · subst e
    rw [if_pos (by omega)]
    exact World.cell?_setCell_same _ _ _ (h i hi).1
  · rw [World.cell?_setCell_other _ _ _ _ (fun e2 => by injection e2 with _ e2 _; omega), (h i hi).1]
    by_cases h2 : i < k
    · rw [if_pos h2, if_pos (by omega)]
    · rw [if_neg h2, if_neg (by omega)]
theorem RoomF.formsZ {w : World} {B k : Nat} {vF : Value} {F : List Nz} (h : RoomF w B k vF) (hk : k ≤ 12) (hn : NodesZ w 0 w.heap.size vF F) : FormsZ w 0 w.heap.size (.slice (some ⟨B, 0, none⟩) k 12) (List.replicate k F) := by
  refine ⟨some ⟨B, 0, none⟩, 12, by rw [List.length_replicate], by rw [List.length_replicate]; omega, fun j f hj => ?_⟩
  obtain ⟨hm, hlt⟩ : f = F ∧ j < k := by
    have h1 := get_lt hj
    rw [List.length_replicate] at h1
    exact ⟨(List.mem_replicate.1 (List.mem_of_getElem? hj)).2, h1⟩
  subst hm
  have hc := (h j (by omega)).1
  rw [if_pos hlt] at hc
  exact ⟨B, 0, vF, rfl, Nat.zero_le _, block_of_cell hc, by rw [Nat.zero_add]; exact hc, hn⟩

set_option maxRecDepth 100000 in
set_option maxHeartbeats 4000000 in
theorem timesI_calls (va : Value) (n : Int) (f g : List Nz) (ok : Bool) (hok : Hid (tmOk n f = ok)) (hg : Hid (tmV n f = g)) (w : World) (lo hi : Nat) (hh : hi ≤ w.heap.size) (hva : NodesZ w lo hi va f) :
    Calls Tryz.prog 17 #[.int .i64 n, .agg #[va]] w (SoPostI w g ok) := by
  have HB0 := Lib.hid fun o o' => show Below w.heap.size w ((w.alloc o).alloc o') from ((Below.refl _ _).alloc (Nat.le_refl _) _).alloc (by simp) _
  obtain ⟨rg, hrg⟩ : ∃ r, goodB f = r := ⟨_, rfl⟩
  have HRG := Lib.hid hrg
  have CG := Lib.hid fun (W : World) (hW : Below w.heap.size w W) => show Calls Tryz.prog 31 #[.agg #[va]] W fun e w' => e = .returned (.bool rg) ∧ Below W.heap.size W w' from by
    rw [← HRG.out]
    exact goodI_calls va f W lo hi (Nat.le_trans hh hW.size) (hva.below hW hh)
  have HVA := Lib.hid fun (W : World) (hW : Below w.heap.size w W) => hva.below hW hh
  obtain ⟨ao, c0, rfl⟩ : ∃ ao c, va = .slice ao f.length c := by obtain ⟨ao, c, e, _⟩ := hva; exact ⟨ao, c, e⟩
  clear hva hrg
  by_cases hin : -12 ≤ n ∧ n ≤ 12
  case neg =>
    have hno := tmIn_far (f := f) (show n < -12 ∨ 12 < n by omega)
    obtain rfl : ok = false := by rw [← hok.out, tmOk_no hno]
    obtain rfl : g = [] := by rw [← hg.out, tmV_no hno]
    clear hok hg CG HVA hno
    by_cases h1 : n < -12
    · clear hin
      go_enter Tryz.func17, Tryz.ntmps17
      go_wp2_with fail
      exact bodyPost_ret (v := .tuple #[.agg #[.slice none 0 0], .bool false]) (by simp [results, Tryz.results17, go_sem]) rfl (soPostI_none rfl (HB0.out _ _))
    · have h2 : (12 : Int) < n := by omega
      clear hin
      go_enter Tryz.func17, Tryz.ntmps17
      go_wp2_with fail
      exact bodyPost_ret (v := .tuple #[.agg #[.slice none 0 0], .bool false]) (by simp [results, Tryz.results17, go_sem]) rfl (soPostI_none rfl (HB0.out _ _))
  have h1 : ¬ n < -12 := by omega
  have h2 : ¬ (12 : Int) < n := by omega
  go_enter Tryz.func17, Tryz.ntmps17
  go_wp2_with fail
  refine (CG.out _ (HB0.out _ _)).mono ?_
  rintro e w4 ⟨rfl, hb4⟩
  have HP4 : Hid (BoxAt w4 w.heap.size (.slice ao f.length c0)) := Lib.hid (BoxAt.below ⟨by go_simp, by go_simp⟩ hb4)
  have HR4 : Hid (BoxAt w4 (w.heap.size + 1) (.slice none 0 0)) := Lib.hid (BoxAt.below ⟨by go_simp, by go_simp⟩ hb4)
  have HB4 := Lib.hid (Below.trans (HB0.out _ _) (hb4.mono (by simp; omega)))
  clear hb4 CG
  cases rg with
  | false =>
    have hno := tmIn_bad (n := n) HRG.out
    obtain rfl : ok = false := by rw [← hok.out, tmOk_no hno]
    obtain rfl : g = [] := by rw [← hg.out, tmV_no hno]
    have B4 := Lib.hid (HB4.out.setCell (p := ⟨w.heap.size + 1, 0, none⟩) (by show w.heap.size ≤ w.heap.size + 1; omega) (.slice none 0 0))
    obtain ⟨d0, z0⟩ := HR4.out
    have hcr := World.cell?_setCell_same w4 ⟨w.heap.size + 1, 0, none⟩ (.slice none 0 0) d0
    clear hno
    go_wp2_with fail
    exact bodyPost_ret (v := .tuple #[.agg #[.slice none 0 0], .bool false]) (by simp [results, Tryz.results17, go_sem, hcr]) rfl (soPostI_none rfl B4.out)
  | true =>
    have hyes := (tmIn_iff n f).2 ⟨hin, HRG.out⟩
    have HOK : Hid (soOk (tmL n f) = ok) := Lib.hid (by rw [← tmOk_yes hyes]; exact hok.out)
    have HG : Hid (soV (tmL n f) = g) := Lib.hid (by rw [← tmV_yes hyes]; exact hg.out)
    obtain ⟨gN, hgN⟩ : ∃ g, negV f = g := ⟨_, rfl⟩
    have HGN := Lib.hid hgN
    have C := Lib.hid (negI_calls (.slice ao f.length c0) f gN true HRG HGN w4 lo hi (Nat.le_trans hh HB4.out.size) (HVA.out w4 HB4.out))
    have HZ4 : Hid (NodesZ w4 0 w4.heap.size (.slice ao f.length c0) f) := Lib.hid ((HVA.out w4 HB4.out).wide (Nat.zero_le _) (Nat.le_trans hh HB4.out.size))
    clear hok hg hyes hgN HVA
    obtain ⟨k4, z4⟩ := HP4.out
    go_upto_if 23 with fail
    go_cut [0] (fun s0 wx => ∃ (k : Nat) (aF : Option Addr) (cF : Nat) (F : List Nz), s0 = .int .i64 k ∧ k ≤ 12 ∧ Hid (tmL n f = List.replicate k F) ∧ Hid (BoxAt wx w.heap.size (.slice aF F.length cF)) ∧ Hid (NodesZ wx 0 wx.heap.size (.slice aF F.length cF) F) ∧ Hid (BoxAt wx (w.heap.size + 1) (.slice none 0 0)) ∧ Hid (Below w.heap.size w wx))
    case first =>
      by_cases hn : n < 0
      · have hk : -n = (n.natAbs : Int) := by omega
        have HT := Lib.hid (tmL_neg hn HGN.out hk)
        have hk12 : n.natAbs ≤ 12 := by omega
        clear HG HOK hk
        go_wp2_with fail
        refine C.out.mono ?_
        rintro e w6 ⟨a, c, vs, rfl, hn6, hb6⟩
        have hal : Below w6.heap.size w6 (w6.alloc (.cells #[.slice a gN.length c] 26)) := (Below.refl _ _).alloc (Nat.le_refl _) _
        have hb7 := below_viaS hb6 hal
        obtain ⟨d6, z6⟩ := HP4.out.below hb7
        have hs4 := HB4.out.size
        have hs6 := hb6.size
        have hlt4 := block_of_cell HR4.out.1
        have j1 : (w6.alloc (.cells #[.slice a gN.length c] 26)).cell? ⟨w6.heap.size, 0, none⟩ = some (.slice a gN.length c) := by go_simp
        have HN7 := Lib.hid ((hn6.below hal).nodesZ)
        have HR7 := Lib.hid (HR4.out.below hb7)
        have HB7 := Lib.hid (HB4.out.trans (hb7.mono HB4.out.size))
        have hlt6 := block_of_cell d6
        clear hn6 hb6 hb7 C HP4 HR4 HB4 k4 z4
        go_upto_region 7 with fail
        generalize w6.alloc (.cells #[.slice a gN.length c] 26) = W7 at hal d6 z6 j1 HN7 HR7 HB7 hlt6 ⊢
        go_region
        all_goals
          have hd : Below W7.heap.size W7 W7.drew := below_drewN (Below.refl _ _) 1
          have O8 : Only W7.drew (W7.drew.setCell ⟨w.heap.size, 0, none⟩ (.slice a gN.length c)) (fun b => b = w.heap.size) := Only.of_set (F := fun b => b = w.heap.size) (p := ⟨w.heap.size, 0, none⟩) _ rfl
          have R1 : Hid (BoxAt (W7.drew.setCell ⟨w.heap.size, 0, none⟩ (.slice a gN.length c)) w.heap.size (.slice a gN.length c)) := Lib.hid ⟨World.cell?_setCell_same _ _ _ d6, by rw [World.frozen?_setCell]; exact z6⟩
          have R2 : Hid (NodesZ (W7.drew.setCell ⟨w.heap.size, 0, none⟩ (.slice a gN.length c)) 0 (W7.drew.setCell ⟨w.heap.size, 0, none⟩ (.slice a gN.length c)).heap.size (.slice a gN.length c) gN) := Lib.hid ((NodesZ.keep (HN7.out.below hd (Nat.le_refl _)) (fun b o h1 h2 => World.cell?_setCell_other _ _ _ _ (fun e => by injection e with e _ _; omega))).wide (Nat.zero_le _) (by simp))
          have R3 := Lib.hid ((HR7.out.below hd).only O8 (by omega))
          have R4 : Hid (Below w.heap.size w (W7.drew.setCell ⟨w.heap.size, 0, none⟩ (.slice a gN.length c))) := Lib.hid ((HB7.out.trans (hd.mono HB7.out.size)).setCell (by show w.heap.size ≤ w.heap.size; omega) _)
          clear HN7 HR7 HB7 hd O8 j1 d6 z6
          go_wp2_with fail
          go_meet
          exact ⟨n.natAbs, a, c, gN, by first | exact congrArg (Value.int .i64) (by omega) | go_num, hk12, HT, R1, R2, R3, R4⟩
      · have HT := Lib.hid (tmL_pos (f := f) hn (show n = (n.natAbs : Int) by omega))
        have hk12 : n.natAbs ≤ 12 := by omega
        clear HG HOK C
        go_wp2_with fail
        go_meet
        exact ⟨n.natAbs, ao, c0, f, congrArg (Value.int .i64) (by omega), hk12, HT, HP4, HZ4, HR4, HB4⟩
    case rest =>
      obtain ⟨k, aF, cF, F, rfl, hk12, HT, HPX, HZX, HRX, HBX⟩ := hcut
      rw [HT.out] at HOK HG
      clear C HP4 HR4 HB4 k4 z4 HZ4 HGN HT
      have hro : RoomF (wc.alloc (.cells #[.slice none 0 0, .slice none 0 0, .slice none 0 0, .slice none 0 0, .slice none 0 0, .slice none 0 0, .slice none 0 0, .slice none 0 0, .slice none 0 0, .slice none 0 0, .slice none 0 0, .slice none 0 0] 54)) wc.heap.size 0 (.slice aF F.length cF) := fun i hi => by
        rw [if_neg (by omega)]
        rcases (show i = 0 ∨ i = 1 ∨ i = 2 ∨ i = 3 ∨ i = 4 ∨ i = 5 ∨ i = 6 ∨ i = 7 ∨ i = 8 ∨ i = 9 ∨ i = 10 ∨ i = 11 by omega) with rfl | rfl | rfl | rfl | rfl | rfl | rfl | rfl | rfl | rfl | rfl | rfl <;> exact ⟨by go_simp, by go_simp⟩
      have HRO0 := Lib.hid hro
      have HBW0 : Hid (Below wc.heap.size wc (wc.alloc (.cells #[.slice none 0 0, .slice none 0 0, .slice none 0 0, .slice none 0 0, .slice none 0 0, .slice none 0 0, .slice none 0 0, .slice none 0 0, .slice none 0 0, .slice none 0 0, .slice none 0 0, .slice none 0 0] 54))) := Lib.hid ((Below.refl _ _).alloc (Nat.le_refl _) _)
      clear hro
      go_wp2
      go_loopw [9, 36] (fun _ i wr => ∃ (j : Nat), j ≤ k ∧ i = .int .i64 j ∧ Hid (RoomF wr wc.heap.size j (.slice aF F.length cF)) ∧ Hid (Below wc.heap.size wc wr)) (fun _ i _ => k - (intOf i).toNat)
      case atStart => exact ⟨0, by omega, rfl, HRO0, HBW0⟩
      case round =>
        obtain ⟨j, hj, rfl, hro, hbw⟩ := hrel
        clear HRO0 HBW0
        by_cases hlt : j < k
        · have kp := (HPX.out.below hbw.out).1
          have hsz := hbw.out.size
          have hj0 : (0 : Int) ≤ j := by omega
          have hj1 : (j : Int) < k := by omega
          have hj2 : (j : Int) < 12 := by omega
          have hj3 : j < 12 := by omega
          obtain ⟨d8, z8⟩ := hro.out j hj3
          have R1 := Lib.hid (hro.out.next hj3)
          have R2 := Lib.hid (hbw.out.setCell (p := ⟨wc.heap.size, j, none⟩) (Nat.le_refl _) (.slice aF F.length cF))
          clear hro hbw
          go_wp2_with fail
          go_roundw
          case rel => exact ⟨j + 1, by omega, by go_num, R1, R2⟩
          case measure => first | (simp [intOf]; done) | (simp [intOf]; omega)
        · have hjk : j = k := by omega
          subst hjk
          have HBr := Lib.hid (HBX.out.trans (hbw.out.mono HBX.out.size))
          have CS := Lib.hid (sumOfI_calls (.slice (some ⟨wc.heap.size, 0, none⟩) j 12) (List.replicate j F) g ok HOK HG wr 0 wr.heap.size (Nat.le_refl _) (hro.out.formsZ hk12 ((HZX.out.below hbw.out (Nat.le_refl _)).wide (Nat.le_refl _) hbw.out.size)))
          have HR5 := Lib.hid (HRX.out.below hbw.out)
          have hj0 : (0 : Int) ≤ j := by omega
          have hj2 : (j : Int) ≤ 12 := by omega
          clear hro hbw HPX HZX HRX HOK HG HRG HBX
          go_wp2_with fail
          refine CS.out.mono ?_
          rintro e w9 ⟨a, c, vs, rfl, hn9, hb9⟩
          obtain ⟨d9, z9⟩ := HR5.out.below hb9
          have hs9 := HBr.out.size
          have hlt5 := block_of_cell HR5.out.1
          have HN : Hid (OwnF (w9.setCell ⟨w.heap.size + 1, 0, none⟩ (.slice a g.length c)) w.heap.size (.slice a g.length c) vs g) := Lib.hid ((hn9.setCell (by show w.heap.size + 1 < _; omega)).mono hs9)
          have HB9 : Hid (Below w.heap.size w (w9.setCell ⟨w.heap.size + 1, 0, none⟩ (.slice a g.length c))) := Lib.hid ((HBr.out.trans (hb9.mono hs9)).setCell (by show w.heap.size ≤ w.heap.size + 1; omega) _)
          have hcr := World.cell?_setCell_same w9 ⟨w.heap.size + 1, 0, none⟩ (.slice a g.length c) d9
          clear hn9 hb9 CS HR5 HBr
          go_wp2_with fail
          exact bodyPost_ret (v := .tuple #[.agg #[.slice a g.length c], .bool ok]) (by simp [results, Tryz.results17, go_sem, hcr]) rfl ⟨a, c, vs, rfl, HN.out, HB9.out⟩
end

section
set_option linter.unusedVariables false
set_option linter.unusedSimpArgs false
open Go.RowKit

theorem cell_one_newF (w : World) (u : Value) : ∀ (j : Nat) (v : Value), [u][j]? = some v → (w.alloc (.cells #[u] 26)).cell? ((⟨w.heap.size, 0, none⟩ : Addr).add j) = some v := fun j v hj => by
  match j, hj with
  | 0, hj =>
    simp at hj
    subst hj
    simp [Addr.add]

/-- a row of one form, again and again -/
theorem formsZ_same {w : World} {base g c k : Nat} {vF : Value} {F : List Nz} (h : w.ownsRow base 26 1 (.slice (some ⟨g, 0, none⟩) k c) k (List.replicate k vF)) (hn : NodesZ w 0 w.heap.size vF F) : FormsZ w 0 w.heap.size (.slice (some ⟨g, 0, none⟩) k c) (List.replicate k F) := by
  refine ⟨some ⟨g, 0, none⟩, c, by rw [List.length_replicate], by rw [List.length_replicate]; exact World.ownsRow.caps h, fun j f hj => ?_⟩
  obtain ⟨hm, hlt⟩ : f = F ∧ j < k := by
    have h1 := get_lt hj
    rw [List.length_replicate] at h1
    exact ⟨(List.mem_replicate.1 (List.mem_of_getElem? hj)).2, h1⟩
  subst hm
  have hc := World.ownsRow.cells h (g := g) rfl j vF (by rw [List.getElem?_replicate, if_pos hlt])
  have hc2 : w.cell? ⟨g, j, none⟩ = some vF := by
    cases j with
    | zero => simpa [Addr.add] using hc
    | succ j => simpa [Addr.add] using hc
  exact ⟨g, 0, vF, rfl, Nat.zero_le _, block_of_cell hc2, by rw [Nat.zero_add]; exact hc2, hn⟩

theorem replicate_snoc {k : Nat} (v : Value) : List.replicate k v ++ [v] = List.replicate (k + 1) v := (List.replicate_succ' (n := k) (a := v)).symm

set_option maxRecDepth 100000 in
set_option maxHeartbeats 4000000 in
theorem timesS_calls (va : Value) (n : Int) (f g : List Nz) (ok : Bool) (hok : Hid (tmOk n f = ok)) (hg : Hid (tmV n f = g)) (w : World) (lo hi : Nat) (hh : hi ≤ w.heap.size) (hva : NodesZ w lo hi va f) :
    Calls Tryz.prog 15 #[.int .i64 n, .agg #[va]] w (SoPostS w g ok) := by
  obtain ⟨i0, hi0, hz0, hz1, hz2⟩ := info_parts infoFormA
  have HB0 := Lib.hid fun o o' => show Below w.heap.size w ((w.alloc o).alloc o') from ((Below.refl _ _).alloc (Nat.le_refl _) _).alloc (by simp) _
  obtain ⟨rg, hrg⟩ : ∃ r, goodB f = r := ⟨_, rfl⟩
  have HRG := Lib.hid hrg
  have CG := Lib.hid fun (W : World) (hW : Below w.heap.size w W) => show Calls Tryz.prog 28 #[.agg #[va]] W fun e w' => e = .returned (.bool rg) ∧ Below W.heap.size W w' from by
    rw [← HRG.out]
    exact goodS_calls va f W lo hi (Nat.le_trans hh hW.size) (hva.below hW hh)
  have HVA := Lib.hid fun (W : World) (hW : Below w.heap.size w W) => hva.below hW hh
  obtain ⟨ao, c0, rfl⟩ : ∃ ao c, va = .slice ao f.length c := by obtain ⟨ao, c, e, _⟩ := hva; exact ⟨ao, c, e⟩
  clear hva hrg
  by_cases hin : -12 ≤ n ∧ n ≤ 12
  case neg =>
    have hfar : n < -12 ∨ (-12 ≤ n ∧ 12 < n) := by omega
    have hno := tmIn_far (f := f) (show n < -12 ∨ 12 < n by omega)
    obtain rfl : ok = false := by rw [← hok.out, tmOk_no hno]
    obtain rfl : g = [] := by rw [← hg.out, tmV_no hno]
    have CI := Lib.hid fun W => inS_false n (-12) 12 W hfar
    clear hok hg CG HVA hno
    go_enter Tryz.func15, Tryz.ntmps15
    go_wp2_with fail
    refine (CI.out _).mono ?_
    rintro e w4 ⟨rfl, rfl⟩
    have B4 := Lib.hid ((HB0.out (.cells #[.slice ao f.length c0] 26) (.cells #[.slice none 0 0] 26)).setCell (p := ⟨w.heap.size + 1, 0, none⟩) (by show w.heap.size ≤ w.heap.size + 1; omega) (.slice none 0 0))
    have hcr := World.cell?_setCell_same ((w.alloc (.cells #[.slice ao f.length c0] 26)).alloc (.cells #[.slice none 0 0] 26)) ⟨w.heap.size + 1, 0, none⟩ (.slice none 0 0) (show World.cell? _ _ = some (.slice none 0 0) by go_simp)
    go_wp2_with fail
    exact bodyPost_ret (v := .tuple #[.agg #[.slice none 0 0], .bool false]) (by simp [results, Tryz.results15, go_sem, hcr]) rfl (soPostS_none rfl (HB0.out _ _))
  have CI := Lib.hid fun W => inS_true n (-12) 12 W hin.1 hin.2
  go_enter Tryz.func15, Tryz.ntmps15
  go_wp2_with fail
  refine (CI.out _).mono ?_
  rintro e w3 ⟨rfl, rfl⟩
  go_wp2_with fail
  refine (CG.out _ (HB0.out _ _)).mono ?_
  rintro e w4 ⟨rfl, hb4⟩
  have HP4 : Hid (BoxAt w4 w.heap.size (.slice ao f.length c0)) := Lib.hid (BoxAt.below ⟨by go_simp, by go_simp⟩ hb4)
  have HR4 : Hid (BoxAt w4 (w.heap.size + 1) (.slice none 0 0)) := Lib.hid (BoxAt.below ⟨by go_simp, by go_simp⟩ hb4)
  have HB4 := Lib.hid (Below.trans (HB0.out _ _) (hb4.mono (by simp; omega)))
  clear hb4 CG CI
  cases rg with
  | false =>
    have hno := tmIn_bad (n := n) HRG.out
    obtain rfl : ok = false := by rw [← hok.out, tmOk_no hno]
    obtain rfl : g = [] := by rw [← hg.out, tmV_no hno]
    have B4 := Lib.hid (HB4.out.setCell (p := ⟨w.heap.size + 1, 0, none⟩) (by show w.heap.size ≤ w.heap.size + 1; omega) (.slice none 0 0))
    obtain ⟨d0, z0⟩ := HR4.out
    have hcr := World.cell?_setCell_same w4 ⟨w.heap.size + 1, 0, none⟩ (.slice none 0 0) d0
    clear hno
    go_wp2_with fail
    exact bodyPost_ret (v := .tuple #[.agg #[.slice none 0 0], .bool false]) (by simp [results, Tryz.results15, go_sem, hcr]) rfl (soPostS_none rfl B4.out)
  | true =>
    have hyes := (tmIn_iff n f).2 ⟨hin, HRG.out⟩
    have HOK : Hid (soOk (tmL n f) = ok) := Lib.hid (by rw [← tmOk_yes hyes]; exact hok.out)
    have HG : Hid (soV (tmL n f) = g) := Lib.hid (by rw [← tmV_yes hyes]; exact hg.out)
    obtain ⟨hf1, hf2, _, _⟩ := (goodB_iff f).1 HRG.out
    obtain ⟨gN, hgN⟩ : ∃ g, negV f = g := ⟨_, rfl⟩
    have C := Lib.hid (l5Neg_calls (.slice ao f.length c0) (f.map downN) w4 lo hi (Nat.le_trans hh HB4.out.size) (by rw [hf2.up.1]; exact HVA.out w4 HB4.out) hf2.up.2.under (by simpa using hf1.1) (by have := hf1.2.1; simp; omega) (downN_small hf1))
    rw [show (formM (swapN (f.map downN))).map upN = gN from by rw [← hgN, negV_yes HRG.out]] at C
    have HGN := Lib.hid hgN
    have HZ4 : Hid (NodesZ w4 0 w4.heap.size (.slice ao f.length c0) f) := Lib.hid ((HVA.out w4 HB4.out).wide (Nat.zero_le _) (Nat.le_trans hh HB4.out.size))
    clear hf1 hf2 hok hg hyes hgN HVA
    obtain ⟨k4, z4⟩ := HP4.out
    go_upto_if 18 with fail
    go_cut [0] (fun s0 wx => ∃ (k : Nat) (aF : Option Addr) (cF : Nat) (F : List Nz), s0 = .int .i64 k ∧ k ≤ 12 ∧ Hid (tmL n f = List.replicate k F) ∧ Hid (BoxAt wx w.heap.size (.slice aF F.length cF)) ∧ Hid (NodesZ wx 0 wx.heap.size (.slice aF F.length cF) F) ∧ Hid (BoxAt wx (w.heap.size + 1) (.slice none 0 0)) ∧ Hid (Below w.heap.size w wx))
    case first =>
      by_cases hn : n < 0
      · have hk : -n = (n.natAbs : Int) := by omega
        have HT := Lib.hid (tmL_neg hn HGN.out hk)
        have hk12 : n.natAbs ≤ 12 := by omega
        clear HG HOK
        go_wp2_with fail
        refine C.out.mono ?_
        rintro e w6 ⟨v, rfl, hn6, hb6⟩
        obtain ⟨a, c, rfl, _⟩ := (show ∃ a c, v = .slice a gN.length c ∧ True from by obtain ⟨a, c, e, _⟩ := hn6; exact ⟨a, c, e, trivial⟩)
        obtain ⟨d6, z6⟩ := HP4.out.below hb6
        have O7 : Only w6 (w6.setCell ⟨w.heap.size, 0, none⟩ (.slice a gN.length c)) (fun b => b = w.heap.size) := Only.of_set (F := fun b => b = w.heap.size) (p := ⟨w.heap.size, 0, none⟩) _ rfl
        have R1 : Hid (BoxAt (w6.setCell ⟨w.heap.size, 0, none⟩ (.slice a gN.length c)) w.heap.size (.slice a gN.length c)) := Lib.hid ⟨World.cell?_setCell_same _ _ _ d6, by rw [World.frozen?_setCell]; exact z6⟩
        have hs4 := HB4.out.size
        have hlt4 := block_of_cell HR4.out.1
        have R2 : Hid (NodesZ (w6.setCell ⟨w.heap.size, 0, none⟩ (.slice a gN.length c)) 0 (w6.setCell ⟨w.heap.size, 0, none⟩ (.slice a gN.length c)).heap.size (.slice a gN.length c) gN) := Lib.hid ((NodesZ.keep hn6 (fun b o h1 h2 => World.cell?_setCell_other _ _ _ _ (fun e => by injection e with e _ _; omega))).wide (Nat.zero_le _) (by simp))
        have R3 := Lib.hid ((HR4.out.below hb6).only O7 (by omega))
        have R4 : Hid (Below w.heap.size w (w6.setCell ⟨w.heap.size, 0, none⟩ (.slice a gN.length c))) := Lib.hid ((HB4.out.trans (hb6.mono HB4.out.size)).setCell (by show w.heap.size ≤ w.heap.size; omega) _)
        clear hn6 hb6 C HP4 HR4 HB4 O7 k4 z4
        go_wp2_with fail
        go_meet
        exact ⟨n.natAbs, a, c, gN, by first | rfl | go_num, hk12, HT, R1, R2, R3, R4⟩
      · have HT := Lib.hid (tmL_pos (f := f) hn (show n = (n.natAbs : Int) by omega))
        have hk12 : n.natAbs ≤ 12 := by omega
        clear HG HOK C
        go_wp2_with fail
        go_meet
        exact ⟨n.natAbs, ao, c0, f, congrArg (Value.int .i64) (by omega), hk12, HT, HP4, HZ4, HR4, HB4⟩
    case rest =>
      obtain ⟨k, aF, cF, F, rfl, hk12, HT, HPX, HZX, HRX, HBX⟩ := hcut
      rw [HT.out] at HOK HG
      clear C HP4 HR4 HB4 k4 z4 HZ4 HGN HT
      have hr0 := World.ownsRow_lit (base := wc.heap.size) (e := 26) (size := 1) wc #[] 0 (Nat.le_refl _) (by unfold maxLen; omega) rfl
      have HRW0 : Hid ((wc.alloc (.cells #[] 26)).ownsRow wc.heap.size 26 1 (.slice (some ⟨wc.heap.size, 0, none⟩) 0 0) 0 (List.replicate 0 (.slice aF F.length cF))) := Lib.hid hr0
      have HBW0 : Hid (Below wc.heap.size wc (wc.alloc (.cells #[] 26))) := Lib.hid ((Below.refl _ _).alloc (Nat.le_refl _) _)
      clear hr0
      go_wp2
      go_loopw [6, 7] (fun q i wr => ∃ (j gb cb : Nat), j ≤ k ∧ i = .int .i64 j ∧ q = .slice (some ⟨gb, 0, none⟩) j cb ∧ Hid (wr.ownsRow wc.heap.size 26 1 (.slice (some ⟨gb, 0, none⟩) j cb) j (List.replicate j (.slice aF F.length cF))) ∧ Hid (Below wc.heap.size wc wr)) (fun _ i _ => k - (intOf i).toNat)
      case atStart => exact ⟨0, wc.heap.size, 0, by omega, rfl, rfl, HRW0, HBW0⟩
      case round =>
        obtain ⟨j, gb, cb, hj, rfl, rfl, hrow, hbw⟩ := hrel
        clear HRW0 HBW0
        by_cases hlt : j < k
        · have kp := (HPX.out.below hbw.out).1
          have hsz := hbw.out.size
          have hown6 := Lib.hid (World.ownsRow.alloc hrow.out (.cells #[.slice aF F.length cF] 26))
          have hal : Below wr.heap.size wr (wr.alloc (.cells #[.slice aF F.length cF] 26)) := (Below.refl _ _).alloc (Nat.le_refl _) _
          have HW6 := Lib.hid (hbw.out.trans (hal.mono hsz))
          have hj0 : (0 : Int) ≤ j := by omega
          have hj1 : (j : Int) < k := by omega
          clear hal hrow
          go_wp2_with (at_builtin; refine wpList_append_own_at _ rfl _ _ 29 rfl wc.heap.size 26 i0 (.agg #[.slice none 0 0]) 1 24 Tryz.underlying29 hi0 hz0 hz1 hz2 rfl (by decide) _ _ _ rfl hown6.out ⟨wr.heap.size, 0, none⟩ 1 1 [.slice aF F.length cF] rfl rfl (cell_one_newF _ _) (by simp [Value.oneCell']) (by unfold maxLen; omega) (by omega) (by simp; omega) ?_; intro v7 w7 hown7 hgrow7 hnil7 hat7)
          have HB7 := Lib.hid (HW6.out.grown hgrow7 HW6.out.size (fun q hq => by
            have e := own_eqp hq
            rcases hown6.out.2 with ⟨h1, _⟩ | ⟨g', c', cs, h1, h2, _⟩
            · cases h1
            · injection h1 with h1 _ _
              injection h1 with h1
              injection h1 with h1 _ _
              omega))
          have hv : ∃ g c', v7 = .slice (some ⟨g, 0, none⟩) (j + 1) c' := by
            rcases hown7.2 with ⟨h1, h0⟩ | ⟨g, c', cs, h1, _⟩
            · omega
            · exact ⟨g, c', h1⟩
          obtain ⟨g7, c7, rfl⟩ := hv
          rw [replicate_snoc] at hown7
          have HO7 := Lib.hid hown7
          clear hown7 hgrow7 hnil7 hat7 hown6 HW6 hbw
          go_wp2
          go_roundw
          case rel => exact ⟨j + 1, g7, c7, by omega, by go_num, rfl, HO7, HB7⟩
          case measure => simp [intOf]; omega
        · have hjk : j = k := by omega
          subst hjk
          have HBr := Lib.hid (HBX.out.trans (hbw.out.mono HBX.out.size))
          have CS := Lib.hid (sumOfS_calls (.slice (some ⟨gb, 0, none⟩) j cb) (List.replicate j F) g ok HOK HG wr 0 wr.heap.size (Nat.le_refl _) (formsZ_same hrow.out ((HZX.out.below hbw.out (Nat.le_refl _)).wide (Nat.le_refl _) hbw.out.size)))
          have HR5 := Lib.hid (HRX.out.below hbw.out)
          clear hrow hbw HPX HZX HRX HOK HG HRG HBX
          go_wp2_with fail
          refine CS.out.mono ?_
          rintro e w9 ⟨a, c, rfl, hn9, hb9⟩
          obtain ⟨d9, z9⟩ := HR5.out.below hb9
          have hs9 := HBr.out.size
          have hlt5 := block_of_cell HR5.out.1
          have HN : Hid (NodesZ (w9.setCell ⟨w.heap.size + 1, 0, none⟩ (.slice a g.length c)) w.heap.size (w9.setCell ⟨w.heap.size + 1, 0, none⟩ (.slice a g.length c)).heap.size (.slice a g.length c) g) := Lib.hid ((NodesZ.keep hn9 (fun b o h1 h2 => World.cell?_setCell_other _ _ _ _ (fun e => by injection e with e _ _; omega))).wide hs9 (by simp))
          have HB9 : Hid (Below w.heap.size w (w9.setCell ⟨w.heap.size + 1, 0, none⟩ (.slice a g.length c))) := Lib.hid ((HBr.out.trans (hb9.mono hs9)).setCell (by show w.heap.size ≤ w.heap.size + 1; omega) _)
          have hcr := World.cell?_setCell_same w9 ⟨w.heap.size + 1, 0, none⟩ (.slice a g.length c) d9
          clear hn9 hb9 CS HR5 HBr
          go_wp2_with fail
          exact bodyPost_ret (v := .tuple #[.agg #[.slice a g.length c], .bool ok]) (by simp [results, Tryz.results15, go_sem, hcr]) rfl ⟨a, c, rfl, HN.out, HB9.out⟩
end

end Go.Proofs.YtgbpnegdoilfnaaGreat
