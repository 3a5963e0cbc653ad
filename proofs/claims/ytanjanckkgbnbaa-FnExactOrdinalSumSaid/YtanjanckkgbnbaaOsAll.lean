/- Games stacked one on another: mathematics. -/
import Derived.Test.YtanjanckkgbnbaaFmGood
import Derived.Test.YtanjanckkgbnbaaFmAdd
import Derived.Test.YtanjanckkgbnbaaFmPartL
import Derived.Test.YtanjanckkgbnbaaFmFits
import Derived.Test.YtanjanckkgbnbaaInOf
import Derived.Test.YtanjanckkgbnbaaBkAt
import Derived.Test.YtanjanckkgbnbaaSmM
import Derived.Test.YtanjanckkgbnbaaInForm
import Derived.Test.YtanjanckkgbnbaaInDays
import Derived.Test.YtanjanckkgbnbaaGsR
import Derived.Test.YtanjanckkgbnbaaFmAt
import Derived.Test.YtanjanckkgbnbaaFmOwn
import Derived.Laws.AppendOwnNone
import Derived.Maps.AppendAt
import Derived.Lib.AppendZerosOnto
import Derived.Lib.SliceRun
import Derived.Deep.WholeRow
import Derived.Lib.Walk
import Derived.Test.YtanjanckkgbnbaaFmForm
import Derived.Deep.RegionHeld3
import Derived.Deep.RegionLaw
namespace Go.Proofs.Ytanjanckkgbnbaa
section
set_option linter.unusedVariables false
set_option linter.unusedSimpArgs false

def shD (n : Nat) (f : List Nd) : List Nd := f.map fun nd => (nd.1.map (· + n), nd.2.map (· + n))
theorem shD_len (n : Nat) (f : List Nd) : (shD n f).length = f.length := by simp [shD]
theorem shD_snoc (n : Nat) (f : List Nd) (nd : Nd) : shD n (f ++ [nd]) = shD n f ++ [(nd.1.map (· + n), nd.2.map (· + n))] := by simp [shD]
theorem shD_at {n k : Nat} {f : List Nd} {nd : Nd} (h : f[k]? = some nd) : (shD n f)[k]? = some (nd.1.map (· + n), nd.2.map (· + n)) := by unfold shD; rw [List.getElem?_map, h]; rfl
theorem shD_get {n k : Nat} {f : List Nd} {nd : Nd} (h : (shD n f)[k]? = some nd) : ∃ x, f[k]? = some x ∧ nd = (x.1.map (· + n), x.2.map (· + n)) := by
  unfold shD at h
  rw [List.getElem?_map] at h
  cases hx : f[k]? with
  | none => rw [hx] at h; cases h
  | some x => rw [hx] at h; simp only [Option.map_some, Option.some.injEq] at h; exact ⟨x, rfl, h.symm⟩

theorem at_lenP (B f : List Nd) : (addF B f).2.length = f.length := by
  induction f using snocInd with
  | nil => rfl
  | snoc f nd ih => rw [addF_snoc]; simp [ih]

theorem getD_right (A C : List Nat) (x : Nat) : (A ++ C).getD (x + A.length) 0 = C.getD x 0 := by
  rw [List.getD_eq_getElem?_getD, List.getD_eq_getElem?_getD, List.getElem?_append_right (by omega), Nat.add_sub_cancel]
theorem getD_left (A C : List Nat) (x : Nat) (h : x < A.length) : (A ++ C).getD x 0 = A.getD x 0 := by
  rw [List.getD_eq_getElem?_getD, List.getD_eq_getElem?_getD, List.getElem?_append_left h]

theorem addF_sh (P f : List Nd) : addF [] (P ++ shD P.length f) = ((addF (addF [] P).1 f).1, (addF [] P).2 ++ (addF (addF [] P).1 f).2) := by
  induction f using snocInd with
  | nil => simp [shD, addF]
  | snoc f nd ih =>
    rw [shD_snoc, ← List.append_assoc, addF_snoc, ih, addF_snoc]
    have hm : movd (fun x => ((addF [] P).2 ++ (addF (addF [] P).1 f).2).getD x 0) (nd.1.map (· + P.length), nd.2.map (· + P.length)) = movd (fun x => (addF (addF [] P).1 f).2.getD x 0) nd := by
      unfold movd
      simp only [List.map_map, Function.comp_def]
      have hl := at_lenP [] P
      have e : ∀ x, ((addF [] P).2 ++ (addF (addF [] P).1 f).2).getD (x + P.length) 0 = (addF (addF [] P).1 f).2.getD x 0 := fun x => by
        have := getD_right (addF [] P).2 (addF (addF [] P).1 f).2 x
        rwa [hl] at this
      simp only [e]
    dsimp only
    rw [hm, List.append_assoc]

/-- a game put on the pile, its top told -/
def stk (s : List Nd × List Nat) (f : List Nd) : List Nd × List Nat := (s.1 ++ shD s.1.length f, s.2 ++ [s.1.length + f.length - 1])
def stkL (P : List Nd) (fs : List (List Nd)) : List Nd × List Nat := fs.foldl stk (P, [])
theorem stkL_nil (P : List Nd) : stkL P [] = (P, []) := rfl
theorem stkL_snoc (P : List Nd) (fs : List (List Nd)) (f : List Nd) : stkL P (fs ++ [f]) = stk (stkL P fs) f := by simp [stkL, List.foldl_append]
theorem stkL_tops (P : List Nd) (fs : List (List Nd)) : (stkL P fs).2.length = fs.length := by
  induction fs using snocInd with
  | nil => rfl
  | snoc fs f ih => rw [stkL_snoc]; simp [stk, ih]
theorem stkL_pre (P : List Nd) (fs : List (List Nd)) : P <+: (stkL P fs).1 := by
  induction fs using snocInd with
  | nil => exact List.prefix_refl _
  | snoc fs f ih => rw [stkL_snoc]; exact ih.trans (List.prefix_append _ _)
theorem stkL_len (P : List Nd) (fs : List (List Nd)) (h : ∀ f ∈ fs, f.length ≤ 125) : (stkL P fs).1.length ≤ P.length + 125 * fs.length := by
  induction fs using snocInd with
  | nil => simp [stkL]
  | snoc fs f ih =>
    have h1 := ih (fun g hg => h g (by simp [hg]))
    have h2 := h f (by simp)
    rw [stkL_snoc]
    simp only [stk, List.length_append, shD_len, List.length_singleton]
    omega

/-- what is asked of the games -/
structure Fit (f : List Nd) : Prop where
  pos : 0 < f.length
  most : f.length ≤ 125
  under : Under f
  used : Used f
  small : ∀ nd ∈ f, nd.1.length ≤ 24 ∧ nd.2.length ≤ 24

theorem stkL_lt (P : List Nd) (fs : List (List Nd)) (h : ∀ f ∈ fs, 0 < f.length) : ∀ t ∈ (stkL P fs).2, t < (stkL P fs).1.length := by
  induction fs using snocInd with
  | nil => intro t ht; simp [stkL] at ht
  | snoc fs f ih =>
    have h1 := ih (fun g hg => h g (by simp [hg]))
    have h2 := h f (by simp)
    rw [stkL_snoc]
    intro t ht
    simp only [stk, List.length_append, shD_len, List.mem_append, List.mem_singleton] at ht ⊢
    rcases ht with ht | ht
    · have := h1 t ht; omega
    · omega

theorem under_sh {P f : List Nd} (hP : Under P) (hf : Under f) : Under (P ++ shD P.length f) := by
  intro k nd hk x hx
  rcases Nat.lt_or_ge k P.length with hlt | hge
  · rw [List.getElem?_append_left hlt] at hk
    exact hP k nd hk x hx
  · rw [List.getElem?_append_right hge] at hk
    obtain ⟨y, hy, rfl⟩ := shD_get hk
    have := hf _ y hy
    rcases hx with hx | hx
    · obtain ⟨z, hz, rfl⟩ := List.mem_map.1 hx
      have := this z (Or.inl hz); omega
    · obtain ⟨z, hz, rfl⟩ := List.mem_map.1 hx
      have := this z (Or.inr hz); omega

theorem stkL_under (P : List Nd) (fs : List (List Nd)) (hP : Under P) (h : ∀ f ∈ fs, Under f) : Under (stkL P fs).1 := by
  induction fs using snocInd with
  | nil => exact hP
  | snoc fs f ih =>
    rw [stkL_snoc]
    exact under_sh (ih (fun g hg => h g (by simp [hg]))) (h f (by simp))

theorem stkL_small (P : List Nd) (fs : List (List Nd)) (hP : ∀ nd ∈ P, nd.1.length ≤ 24 ∧ nd.2.length ≤ 24) (h : ∀ f ∈ fs, ∀ nd ∈ f, nd.1.length ≤ 24 ∧ nd.2.length ≤ 24) : ∀ nd ∈ (stkL P fs).1, nd.1.length ≤ 24 ∧ nd.2.length ≤ 24 := by
  induction fs using snocInd with
  | nil => exact hP
  | snoc fs f ih =>
    rw [stkL_snoc]
    intro nd hnd
    simp only [stk, List.mem_append] at hnd
    rcases hnd with hnd | hnd
    · exact ih (fun g hg => h g (by simp [hg])) nd hnd
    · unfold shD at hnd
      obtain ⟨x, hx, rfl⟩ := List.mem_map.1 hnd
      have := h f (by simp) x hx
      simpa using this

theorem Reached.pre {A C : List Nd} {r k : Nat} (hp : A <+: C) (h : Reached A r k) : Reached C r k := by
  induction h with
  | root => exact .root
  | opt _ hn hx ih => exact .opt ih (get_pre hp hn) hx
theorem Reached.trans {A : List Nd} {r k j : Nat} (h : Reached A r k) (g : Reached A k j) : Reached A r j := by
  induction g with
  | root => exact h
  | opt _ hn hx ih => exact .opt ih hn hx
theorem Reached.sh {P f : List Nd} {r k : Nat} (h : Reached f r k) : Reached (P ++ shD P.length f) (P.length + r) (P.length + k) := by
  induction h with
  | root => exact .root
  | @opt k' x nd _ hn hx ih =>
    refine .opt (k := P.length + k') (nd := (nd.1.map (· + P.length), nd.2.map (· + P.length))) ih ?_ ?_
    · rw [List.getElem?_append_right (by omega), Nat.add_sub_cancel_left]
      exact shD_at hn
    · rcases hx with hx | hx
      · exact Or.inl (List.mem_map.2 ⟨x, hx, by omega⟩)
      · exact Or.inr (List.mem_map.2 ⟨x, hx, by omega⟩)

theorem stkL_reach (P : List Nd) (fs : List (List Nd)) (h : ∀ f ∈ fs, Fit f) : ∀ k, k < (stkL P fs).1.length → k < P.length ∨ ∃ t ∈ (stkL P fs).2, Reached (stkL P fs).1 t k := by
  induction fs using snocInd with
  | nil => intro k hk; exact Or.inl hk
  | snoc fs f ih =>
    have h1 := ih (fun g hg => h g (by simp [hg]))
    have h2 := h f (by simp)
    rw [stkL_snoc]
    intro k hk
    simp only [stk, List.length_append, shD_len] at hk ⊢
    rcases Nat.lt_or_ge k (stkL P fs).1.length with hlt | hge
    · rcases h1 k hlt with h3 | ⟨t, ht, hr⟩
      · exact Or.inl h3
      · exact Or.inr ⟨t, List.mem_append_left _ ht, hr.pre (List.prefix_append _ _)⟩
    · right
      refine ⟨(stkL P fs).1.length + f.length - 1, by simp, ?_⟩
      have hr := used_reach h2.under h2.used (f.length - 1 - (k - (stkL P fs).1.length)) (by have := h2.pos; omega)
      have hr2 := hr.sh (P := (stkL P fs).1)
      have e1 : (stkL P fs).1.length + (f.length - 1) = (stkL P fs).1.length + f.length - 1 := by have := h2.pos; omega
      have e2 : (stkL P fs).1.length + (f.length - 1 - (f.length - 1 - (k - (stkL P fs).1.length))) = k := by omega
      rwa [e1, e2] at hr2

/-- games with a node on top -/
def mkD (ls rs : List (List Nd)) : List Nd := (stkL (stkL [] ls).1 rs).1 ++ [((stkL [] ls).2, (stkL (stkL [] ls).1 rs).2)]

theorem mkD_under {ls rs : List (List Nd)} (hl : ∀ f ∈ ls, Fit f) (hr : ∀ f ∈ rs, Fit f) : Under (mkD ls rs) := by
  have hu := stkL_under _ rs (stkL_under [] ls (fun k nd hk => by simp at hk) (fun f hf => (hl f hf).under)) (fun f hf => (hr f hf).under)
  have t1 := stkL_lt [] ls (fun f hf => (hl f hf).pos)
  have t2 := stkL_lt (stkL [] ls).1 rs (fun f hf => (hr f hf).pos)
  have hp := (stkL_pre (stkL [] ls).1 rs).length_le
  intro k nd hk x hx
  unfold mkD at hk
  rcases Nat.lt_or_ge k (stkL (stkL [] ls).1 rs).1.length with hlt | hge
  · rw [List.getElem?_append_left hlt] at hk
    exact hu k nd hk x hx
  · rw [List.getElem?_append_right hge] at hk
    have hk0 := get_lt hk
    simp at hk0
    rw [show k - (stkL (stkL [] ls).1 rs).1.length = 0 from by omega] at hk
    simp only [List.getElem?_cons_zero, Option.some.injEq] at hk
    subst hk
    rcases hx with hx | hx
    · have := t1 x hx; omega
    · have := t2 x hx; omega

theorem mkD_len (ls rs : List (List Nd)) : (mkD ls rs).length = (stkL (stkL [] ls).1 rs).1.length + 1 := by simp [mkD]
theorem mkD_most {ls rs : List (List Nd)} (hl : ∀ f ∈ ls, Fit f) (hr : ∀ f ∈ rs, Fit f) : (mkD ls rs).length ≤ 125 * ls.length + 125 * rs.length + 1 := by
  have h1 := stkL_len [] ls (fun f hf => (hl f hf).most)
  have h2 := stkL_len (stkL [] ls).1 rs (fun f hf => (hr f hf).most)
  rw [mkD_len]
  simp only [List.length_nil] at h1
  omega

theorem mkD_reach {ls rs : List (List Nd)} (hl : ∀ f ∈ ls, Fit f) (hr : ∀ f ∈ rs, Fit f) (k : Nat) (hk : k < (mkD ls rs).length) : Reached (mkD ls rs) ((mkD ls rs).length - 1) k := by
  have hlast : (mkD ls rs)[(mkD ls rs).length - 1]? = some ((stkL [] ls).2, (stkL (stkL [] ls).1 rs).2) := by
    rw [mkD_len]
    unfold mkD
    simp
  have hpre : (stkL (stkL [] ls).1 rs).1 <+: mkD ls rs := List.prefix_append _ _
  have hpre1 : (stkL [] ls).1 <+: mkD ls rs := (stkL_pre _ _).trans hpre
  have hk2 := hk
  rw [mkD_len] at hk2
  by_cases e : k = (mkD ls rs).length - 1
  · rw [e]; exact .root
  · have hk3 : k < (stkL (stkL [] ls).1 rs).1.length := by rw [mkD_len] at e; omega
    rcases stkL_reach (stkL [] ls).1 rs hr k hk3 with h3 | ⟨t, ht, h4⟩
    · rcases stkL_reach [] ls hl k h3 with h5 | ⟨t, ht, h4⟩
      · simp at h5
      · exact (Reached.opt .root hlast (Or.inl ht)).trans (h4.pre hpre1)
    · exact (Reached.opt .root hlast (Or.inr ht)).trans (h4.pre hpre)

/-- where the tops are in a book -/
def atT (Q : List Nd) (T : List Nat) : List Nat := T.map fun t => (addF [] Q).2.getD t 0

theorem atT_step (Q : List Nd) (T : List Nat) (f : List Nd) (h0 : 0 < f.length) (hT : ∀ t ∈ T, t < Q.length) :
    atT (Q ++ shD Q.length f) (T ++ [Q.length + f.length - 1]) = atT Q T ++ [(addF (addF [] Q).1 f).2.getD (f.length - 1) 0] := by
  unfold atT
  have hl := at_lenP [] Q
  rw [addF_sh, List.map_append]
  congr 1
  · refine List.map_congr_left fun t ht => ?_
    exact getD_left _ _ _ (by rw [hl]; exact hT t ht)
  · simp only [List.map_cons, List.map_nil]
    have := getD_right (addF [] Q).2 (addF (addF [] Q).1 f).2 (f.length - 1)
    rw [hl] at this
    rw [← this]
    congr 2
    omega

theorem atT_keep (Q : List Nd) (T : List Nat) (f : List Nd) (hT : ∀ t ∈ T, t < Q.length) : atT (Q ++ shD Q.length f) T = atT Q T := by
  unfold atT
  have hl := at_lenP [] Q
  rw [addF_sh]
  exact List.map_congr_left fun t ht => getD_left _ _ _ (by rw [hl]; exact hT t ht)
end

section
set_option linter.unusedVariables false
set_option linter.unusedSimpArgs false
open Go.RowKit

set_option maxRecDepth 100000 in
set_option maxHeartbeats 8000000 in
theorem add_callsX (X : Nat → Prop) (base B : Nat) (ns : List Nd) (vn0 vb0 : Value) (vs0 : List (Value × Value)) (vf : Value) (f : List Nd) (w : World) (lo hi : Nat) (hh : hi ≤ base)
    (hX : ∀ g, X g → g < w.heap.size) (hFX : ∀ g, Foot B vn0 vb0 g → ¬ X g) (h : Bk base w B ns (bornsOf ns) vn0 vb0 vs0 X) (hbk : Book ns) (hv : NodesZ w lo hi vf (f.map upN)) (hf : Under f) (hn : ns.length + f.length ≤ 90000) (hl : ∀ nd ∈ f, nd.1.length ≤ 90000 ∧ nd.2.length ≤ 90000) :
    Calls Try.prog 63 #[.pointer (some ⟨B, 0, none⟩), .agg #[vf]] w fun e w' => ∃ g c vn vb vs, e = .returned (.slice (some ⟨g, 0, none⟩) f.length c) ∧ IntsZ w' w.heap.size w'.heap.size (.slice (some ⟨g, 0, none⟩) f.length c) (upL (addF ns f).2) ∧
      Bk base w' B (addF ns f).1 (bornsOf (addF ns f).1) vn vb vs X ∧ Only w w' (Foot B vn0 vb0) ∧ ∀ x, x < w.heap.size → Foot B vn vb x → Foot B vn0 vb0 x := by
  have HK0 := Lib.hid h
  have HV := Lib.hid hv
  have HF := Lib.hid hf
  have HL := Lib.hid hl
  have HAD := Lib.hid fun k => addF_added ns hbk (f.take k) (under_take hf k)
  have HFL := Lib.hid h.lt
  have HXX := Lib.hid hX
  have HFX := Lib.hid hFX
  have hbase : base ≤ w.heap.size := by have := h.lt B (Or.inl rfl); omega
  obtain ⟨aof, cof, rfl, _, _⟩ := hv
  rw [List.length_map] at HV ⊢
  clear hl hf hbk h hX hFX
  have HB0 : Hid (Below w.heap.size w ((w.alloc (.cells #[.slice aof f.length cof] 28)).alloc (.cells #[] 3))) := Lib.hid (((Below.refl _ _).alloc (Nat.le_refl _) _).alloc (by simp) _)
  have HO0 : Hid (((w.alloc (.cells #[.slice aof f.length cof] 28)).alloc (.cells #[] 3)).ownsRow base 3 1 (.slice (some ⟨w.heap.size + 1, 0, none⟩) 0 0) 0 []) := Lib.hid (by
    have h := World.ownsRow_lit (base := base) (e := 3) (size := 1) (w.alloc (.cells #[.slice aof f.length cof] 28)) #[] 0 (by simp; omega) (by unfold maxLen; omega) rfl
    rw [show (w.alloc (.cells #[.slice aof f.length cof] 28)).heap.size = w.heap.size + 1 from by simp] at h
    exact h)
  go_enter Try.func63, Try.ntmps63
  go_wp2
  go_loopw [5, 6] (fun q i wr => ∃ (k ga ca : Nat) (vn vb : Value) (vs : List (Value × Value)), k ≤ f.length ∧ i = .int .i64 k ∧ q = .slice (some ⟨ga, 0, none⟩) k ca ∧ Hid (Bk base wr B (addF ns (f.take k)).1 (bornsOf (addF ns (f.take k)).1) vn vb vs (fun g => g = ga ∨ X g)) ∧
      Hid (wr.ownsRow base 3 1 (.slice (some ⟨ga, 0, none⟩) k ca) k ((addF ns (f.take k)).2.map iv)) ∧ w.heap.size < ga ∧ Hid (¬ Foot B vn vb ga) ∧ Hid (∀ g, g < w.heap.size + 1 → Foot B vn vb g → Foot B vn0 vb0 g) ∧ Hid (Only w wr (Foot B vn0 vb0)) ∧ wr.cell? ⟨w.heap.size, 0, none⟩ = some (.slice aof f.length cof)) (fun _ i _ => f.length - (intOf i).toNat)
  case atStart =>
    refine ⟨0, w.heap.size + 1, 0, vn0, vb0, vs0, Nat.zero_le _, rfl, rfl, Lib.hid ?_, Lib.hid ?_, by omega, Lib.hid (fun hF => by have := (HFL.out _ hF).2; omega), Lib.hid (fun _ _ hF => hF), Lib.hid (Only.of_below HB0.out), by go_simp⟩
    · have h1 : Bk base w B ns (bornsOf ns) vn0 vb0 vs0 (fun g => g = w.heap.size + 1 ∨ X g) := HK0.out.reX (fun g hg e => e.resolve_left (by omega))
      simpa [addF] using h1.below HB0.out
    · simpa [addF] using HO0.out
  case round =>
    obtain ⟨k, ga, ca, vn, vb, vs, hk, rfl, rfl, hK, hown, hga, hnf, hft, ho, hbox⟩ := hrel
    by_cases hlt : k < f.length
    · obtain ⟨nd, hx⟩ := lt_get hlt
      have hadd := addF_take ns f k nd hx
      have had := HAD.out k
      have hlen := addF_len ns (f.take k)
      obtain ⟨ao1, c1, e1, _, hnn⟩ := (HV.out.below (ho.out.below hbase (fun g hg => (HFL.out g hg).1)) hh)
      obtain ⟨b, off, v1, v2, hao, _, hbhi, p1, p2, i1, i2⟩ := hnn k (upN nd) (by rw [List.getElem?_map, hx]; rfl)
      obtain ⟨q1, q2, q3⟩ := slice_inj e1
      rw [hao] at q1
      subst q1
      clear q2 q3 e1 hnn
      obtain ⟨hAl, hAI⟩ := own_intsA hown.out (by omega)
      have hnd := HL.out nd (List.mem_of_getElem? hx)
      have hux := HF.out k nd hx
      have hgaw : ga < wr.heap.size := (World.ownsRow.lt hown.out _ rfl).2
      have hos := ho.out.size
      generalize hC : (addF ns (f.take k)).1 = C at hK had hlen hadd
      generalize hA : (addF ns (f.take k)).2 = A at hown had hlen hadd hAl hAI
      have hAC : ∀ x, x < k → A.getD x 0 < C.length := fun x hxk => by
        obtain ⟨n0, hn0⟩ := lt_get (l := f.take k) (i := x) (by simp; omega)
        exact get_lt (had.node x n0 hn0)
      have hCu := had.book.struct.under
      have hCl : C.length ≤ 90000 := by have := hlen.2; simp at this; omega
      have hwr : base ≤ wr.heap.size := by omega
      have C1 := Lib.hid fun (W : World) (hW : Below wr.heap.size wr W) => l3At_calls (.slice (some ⟨ga, 0, none⟩) k ca) v1 A nd.1 W ga (ga + 1) lo hi (by have := hW.size; omega) (by have := hW.size; omega) (hAI.below hW (by omega)) (i1.below hW (by omega)) (by omega) (fun x hx => by rw [hAl]; exact hux x (Or.inl hx))
      have C2 := Lib.hid fun (W : World) (hW : Below wr.heap.size wr W) => l3At_calls (.slice (some ⟨ga, 0, none⟩) k ca) v2 A nd.2 W ga (ga + 1) lo hi (by have := hW.size; omega) (by have := hW.size; omega) (hAI.below hW (by omega)) (i2.below hW (by omega)) (by omega) (fun x hx => by rw [hAl]; exact hux x (Or.inr hx))
      have C3 := Lib.hid fun (W : World) (hW : Below wr.heap.size wr W) (vl vr : Value) (l1 h1 l2 h2 : Nat) (hh1 : h1 ≤ W.heap.size) (hh2 : h2 ≤ W.heap.size) (hvl : IntsZ W l1 h1 vl (upL (nd.1.map (fun x => A.getD x 0)))) (hvr : IntsZ W l2 h2 vr (upL (nd.2.map (fun x => A.getD x 0)))) =>
        put_calls base B C vn vb vs (fun g => g = ga ∨ X g) vl vr (nd.1.map (fun x => A.getD x 0)) (nd.2.map (fun x => A.getD x 0)) W l1 h1 l2 h2 hh1 hh2 (hK.out.below hW) (fun g e => by have := hW.size; rcases e with e | e <;> first | omega | (have := HXX.out g e; omega)) hCu hvl hvr
          (fun y hy => by obtain ⟨x, hx, rfl⟩ := List.mem_map.1 hy; exact hAC x (hux x (Or.inl hx))) (fun y hy => by obtain ⟨x, hx, rfl⟩ := List.mem_map.1 hy; exact hAC x (hux x (Or.inr hx))) (by omega) (by simp; omega) (by simp; omega)
      generalize seat C (sortd (nd.1.map (fun x => A.getD x 0)), sortd (nd.2.map (fun x => A.getD x 0))) = su at C3 hadd
      generalize bookPut C (sortd (nd.1.map (fun x => A.getD x 0)), sortd (nd.2.map (fun x => A.getD x 0))) = Cp at C3 hadd
      have HOW := Lib.hid fun (W : World) (hW : Below wr.heap.size wr W) => own_only hown.out (Only.of_below (F := fun _ => False) hW) (fun _ _ => id)
      have HFK := Lib.hid hK.out.lt
      have HADD := Lib.hid hadd
      have hS0 : AddS w.heap.size b (off + k * 2) (.slice (some ⟨b, off, none⟩) f.length cof) v1 v2 wr.drew := ⟨hbox, p1, p2⟩
      have HBX := Lib.hid hbox
      have nb0 : Hid (¬ Foot B vn vb w.heap.size) := Lib.hid (fun hF => by have := hft.out _ (by omega) hF; have := (HFL.out _ this).2; omega)
      have nb1 : Hid (¬ Foot B vn vb b) := Lib.hid (fun hF => by have := (HFK.out _ hF).1; omega)
      have hbd : Hid (Below wr.heap.size wr wr.drew) := Lib.hid (below_drewN (Below.refl _ _) 1)
      clear hAI i1 i2 hadd had hlen p1 p2 hAC
      have b0 : (0 : Int) ≤ k := by omega
      have b1 : (k : Int) < f.length := by omega
      go_wp2
      go_region_held3 (fun w' : World => w'.cell? ⟨w.heap.size, 0, none⟩ = some (.slice (some ⟨b, off, none⟩) f.length cof) ∧ w'.cell? ⟨b, off + k * 2, none⟩ = some v1 ∧ w'.cell? ⟨b, off + k * 2 + 1, none⟩ = some v2) (first | exact hS0 | (go_split_ands; exact ⟨‹_›, ‹_›, ‹_›⟩) | (go_split_ands; exact addS_only HAPP.out (by omega) (by omega) ⟨‹_›, ‹_›, ‹_›⟩) | (go_split_ands; exact addS_below ((Below.refl _ _).alloc (Nat.le_refl _) _) ⟨‹_›, ‹_›, ‹_›⟩) | (go_split_ands; exact addS_only ho6 nb0.out nb1.out ⟨‹_›, ‹_›, ‹_›⟩) | (go_split_ands; exact addS_below hb5 ⟨‹_›, ‹_›, ‹_›⟩) | (go_split_ands; exact addS_below hb4 ⟨‹_›, ‹_›, ‹_›⟩)) (first | (go_at_call 65; (with_reducible refine (C3.out w5 HB5 _ _ _ _ _ _ (Nat.le_refl _) (Nat.le_refl _) (hi1.below hb5 (Nat.le_refl _) |>.wide (Nat.le_refl _) hb5.size) hi2).mono ?_); rintro e w6 ⟨rfl, vn', vb', vs', hK6, ho6, hf6⟩) | (go_at_call 64; (with_reducible refine (C1.out _ hbd.out).mono ?_); rintro e w4 ⟨g1, c1, rfl, hi1, hg1, hg1', hb4⟩; have HB4 : Below wr.heap.size wr w4 := Below.trans hbd.out hb4) | (go_at_call 64; (with_reducible refine (C2.out w4 HB4).mono ?_); rintro e w5 ⟨g2, c2, rfl, hi2, hg2, hg2', hb5⟩; have HB5 : Below wr.heap.size wr w5 := HB4.trans (hb5.mono HB4.size); have HO6 := HOW.out w5 HB5) | (refine step_app_at rfl _ _ rfl (World.ownsRow.alloc (own_only HO6 ho6 (fun g e => by injection e with e; subst e; exact hnf.out)) _) rfl (B := w6.heap.size) (u := su) (by go_simp) rfl (by omega) (by simp; have := ho6.size; have := HB5.size; omega) ?_; intro v7 w7 hown7 hgrow7 hat7; have HAPP : Hid (Only _ w7 (fun g => g = ga)) := Lib.hid (Only.of_grown hgrow7 (fun g e => by injection e with e; exact e.symm))))
      all_goals
        obtain ⟨g7, c7, rfl, _, hg7h⟩ := hown7.form (by omega)
        have HK7a := hK6.below ((Below.refl w6.heap.size w6).alloc (Nat.le_refl _) (.cells #[.int .i64 (su : Int)] 3))
        have hz6 : (w6.alloc (.cells #[.int .i64 (su : Int)] 3)).heap.size = w6.heap.size + 1 := by simp
        have hz5 := HB5.size
        have hs6 := ho6.size
        have hgaF : ¬ Foot B vn' vb' ga := fun hF => hnf.out (hf6 ga (by omega) hF)
        have hat : g7 = ga ∨ g7 = w6.heap.size + 1 := by
          rcases hat7 with e | e
          · left; injection e
          · right; rw [hz6] at e; injection e
        have HFX7 : ∀ g, Foot B vn' vb' g → ¬ X g := fun g hF hx => by
          have h1 := HXX.out g hx
          exact HFX.out g (hft.out g (by omega) (hf6 g (by omega) hF)) hx
        have HK7b := (HK7a.reX (Y := fun g => (g = ga ∨ g = w6.heap.size + 1) ∨ X g) (fun g hg e => by
          rcases e with (e | e) | e
          · exact Or.inl e
          · rw [hz6] at hg; omega
          · exact Or.inr e)).only (HAPP.out.mono (fun i _ e => Or.inl (Or.inl e))) (fun g hF e => by
          rcases e with (e | e) | e
          · exact hgaF (e ▸ hF)
          · have := (HK7a.lt g hF).2; rw [hz6] at this; omega
          · exact HFX7 g hF e)
        have HK7 : Hid (Bk base w7 B Cp (bornsOf Cp) vn' vb' vs' (fun g => g = g7 ∨ X g)) := Lib.hid (HK7b.reX (fun g _ e => e.imp (fun e => by subst e; exact hat) id))
        have HNF7 : Hid (¬ Foot B vn' vb' g7) := Lib.hid (fun hF => by
          rcases hat with e | e
          · exact hgaF (e ▸ hF)
          · have := (HK7a.lt g7 hF).2; rw [hz6] at this; omega)
        have OT : Only wr w7 (fun g => Foot B vn vb g ∨ g = ga) :=
          (((Only.of_below (F := fun g => Foot B vn vb g ∨ g = ga) HB5).trans ho6 (fun i _ h => Or.inl h)).trans (Only.of_below (F := fun g => Foot B vn vb g ∨ g = ga) ((Below.refl w6.heap.size w6).alloc (Nat.le_refl _) (.cells #[.int .i64 (su : Int)] 3))) (fun i _ h => h)).trans HAPP.out (fun i _ h => Or.inr h)
        have HO7 : Hid (Only w w7 (Foot B vn0 vb0)) := Lib.hid (ho.out.trans OT (fun i hi h => by
          rcases h with h | h
          · exact hft.out i (by omega) h
          · omega))
        have HFT7 : Hid (∀ g, g < w.heap.size + 1 → Foot B vn' vb' g → Foot B vn0 vb0 g) := Lib.hid (fun g hg hF => hft.out g hg (hf6 g (by omega) hF))
        have HBX7 : Hid (w7.cell? ⟨w.heap.size, 0, none⟩ = some (.slice (some ⟨b, off, none⟩) f.length cof)) := Lib.hid ((OT.cell (block_of_cell HBX.out) (fun h => by
          rcases h with h | h
          · exact nb0.out h
          · omega)).trans HBX.out)
        have HOWN : Hid (w7.ownsRow base 3 1 (.slice (some ⟨g7, 0, none⟩) (k + 1) c7) (k + 1) ((A ++ [su]).map iv)) := Lib.hid (by rw [List.map_append]; exact hown7)
        have hg7 : w.heap.size < g7 := by omega
        clear hown7 hgrow7 hat7 HAPP OT HK7a HK7b hz6 hK6 ho6 hf6 hat hgaF HFX7
        go_wp2
        go_roundw
        case rel => exact ⟨k + 1, g7, c7, vn', vb', vs', by omega, by go_num, rfl, by rw [HADD.out]; exact HK7, by rw [HADD.out]; exact HOWN, hg7, HNF7, HFT7, HO7, HBX7.out⟩
        case measure => simp [intOf]; omega
    · have hke : f.take k = f := List.take_of_length_le (by omega)
      have hkl : k = f.length := by omega
      subst hkl
      rw [hke] at hK hown
      obtain ⟨_, hAI⟩ := own_intsA hown.out (by omega)
      have hgaw : ga < wr.heap.size := (World.ownsRow.lt hown.out _ rfl).2
      have HI := Lib.hid (hAI.wide (lo' := w.heap.size) (hi' := wr.heap.size) (by omega) (by omega))
      have HKE := Lib.hid (hK.out.reX (Y := X) (fun _ _ h => Or.inr h))
      have HFE : Hid (∀ x, x < w.heap.size → Foot B vn vb x → Foot B vn0 vb0 x) := Lib.hid (fun x hx => hft.out x (by omega))
      clear hAI hK hown hke
      go_wp2
      go_ret
      exact ⟨ga, ca, vn, vb, vs, rfl, HI.out, HKE.out, ho.out, HFE.out⟩

set_option maxHeartbeats 1000000 in
theorem root_callsX (X : Nat → Prop) (base B : Nat) (ns : List Nd) (vn0 vb0 : Value) (vs0 : List (Value × Value)) (vf : Value) (f : List Nd) (w : World) (lo hi : Nat) (hh : hi ≤ base)
    (hX : ∀ g, X g → g < w.heap.size) (hFX : ∀ g, Foot B vn0 vb0 g → ¬ X g) (h : Bk base w B ns (bornsOf ns) vn0 vb0 vs0 X) (hbk : Book ns) (hv : NodesZ w lo hi vf (f.map upN)) (hf : Under f) (h0 : 0 < f.length) (hn : ns.length + f.length ≤ 90000) (hl : ∀ nd ∈ f, nd.1.length ≤ 90000 ∧ nd.2.length ≤ 90000) :
    Calls Try.prog 71 #[.pointer (some ⟨B, 0, none⟩), .agg #[vf]] w fun e w' => e = .returned (.int .i64 ((addF ns f).2.getD (f.length - 1) 0 : Nat)) ∧ ∃ vn vb vs,
      Bk base w' B (addF ns f).1 (bornsOf (addF ns f).1) vn vb vs X ∧ Only w w' (Foot B vn0 vb0) ∧ ∀ x, x < w.heap.size → Foot B vn vb x → Foot B vn0 vb0 x := by
  have hbase : base ≤ w.heap.size := by have := h.lt B (Or.inl rfl); omega
  have C := Lib.hid fun (W : World) (hW : Below w.heap.size w W) => add_callsX X base B ns vn0 vb0 vs0 vf f W lo hi hh (fun g hg => Nat.lt_of_lt_of_le (hX g hg) hW.size) hFX (h.below hW) hbk (hv.below hW (by omega)) hf hn hl
  have hfl := (addF_len ns f).1
  obtain ⟨y, hy⟩ := lt_get (l := (addF ns f).2) (i := f.length - 1) (by omega)
  have HY : Hid ((addF ns f).2.getD (f.length - 1) 0 = y) := Lib.hid (by rw [List.getD_eq_getElem?_getD, hy]; rfl)
  have HYY := Lib.hid hy
  have hB1 : Hid (Below w.heap.size w (w.alloc (.cells #[vf] 28))) := Lib.hid ((Below.refl _ _).alloc (Nat.le_refl _) _)
  have hw1 : IntKind.i64.wrap ((f.length : Int) - 1) = (f.length : Int) - 1 := IntWalk.i64_in _ (by omega)
  have hw2 : (0 : Int) ≤ (f.length : Int) - 1 := by omega
  have hw3 : (f.length : Int) - 1 < f.length := by omega
  have hw4 : ((f.length : Int) - 1).toNat = f.length - 1 := by omega
  clear h hv hbk hf hl hfl hy hX hFX
  go_enter Try.func71, Try.ntmps71
  go_wp2_with fail
  refine (C.out _ hB1.out).mono ?_
  rintro e w4 ⟨g, c, vn, vb, vs, rfl, hi4, hK4, ho4, hf4⟩
  have hsz4 := ho4.size
  obtain ⟨ao, c', e', _, hcc⟩ := hi4
  obtain ⟨bb, oo, hao, _, _, hcell⟩ := hcc (f.length - 1) (y : Int) (by unfold upL; rw [List.getElem?_map, HYY.out]; rfl)
  obtain ⟨q1, q2, q3⟩ := slice_inj e'
  rw [← q1] at hao
  injection hao with hao
  injection hao with h1 h2
  subst h1 h2
  rw [Nat.zero_add] at hcell
  have HK := Lib.hid hK4
  have HO : Hid (Only w w4 (Foot B vn0 vb0)) := Lib.hid ((Only.of_below (F := Foot B vn0 vb0) hB1.out).trans ho4 (fun _ _ h => h))
  have HFF : Hid (∀ x, x < w.heap.size → Foot B vn vb x → Foot B vn0 vb0 x) := Lib.hid (fun x hx => hf4 x (by simp; omega))
  clear hcc q1 q2 q3 e' hK4 ho4 hf4 hsz4
  go_wp2
  go_ret
  exact ⟨ret_int (by rw [HY.out]), vn, vb, vs, HK.out, HO.out, HFF.out⟩
end

section
open Go.RowKit
set_option linter.unusedVariables false
set_option linter.unusedSimpArgs false

structure MkS (base : Nat) (w : World) (Q : List Nd) (TL TR : List Nat) (gl cl gr cr : Nat) (vn vb : Value) (vs : List (Value × Value)) : Prop where
  bk : Bk base w base (addF [] Q).1 (bornsOf (addF [] Q).1) vn vb vs (fun g => g = gl ∨ g = gr)
  ol : w.ownsRow base 3 1 (.slice (some ⟨gl, 0, none⟩) TL.length cl) TL.length ((atT Q TL).map iv)
  or_ : w.ownsRow base 3 1 (.slice (some ⟨gr, 0, none⟩) TR.length cr) TR.length ((atT Q TR).map iv)
  ll : base < gl
  lr : base < gr
  ne : gl ≠ gr
  fl : ¬ Foot base vn vb gl
  fr : ¬ Foot base vn vb gr
  tl : ∀ t ∈ TL, t < Q.length
  tr : ∀ t ∈ TR, t < Q.length
  und : Under Q

theorem MkS.swap {base : Nat} {w : World} {Q : List Nd} {TL TR : List Nat} {gl cl gr cr : Nat} {vn vb : Value} {vs : List (Value × Value)} (h : MkS base w Q TL TR gl cl gr cr vn vb vs) : MkS base w Q TR TL gr cr gl cl vn vb vs :=
  ⟨h.bk.reX (fun _ _ e => e.symm), h.or_, h.ol, h.lr, h.ll, h.ne.symm, h.fr, h.fl, h.tr, h.tl, h.und⟩

theorem MkS.size {base : Nat} {w : World} {Q : List Nd} {TL TR : List Nat} {gl cl gr cr : Nat} {vn vb : Value} {vs : List (Value × Value)} (h : MkS base w Q TL TR gl cl gr cr vn vb vs) : gl < w.heap.size ∧ gr < w.heap.size ∧ base < w.heap.size := by
  have h1 := (World.ownsRow.lt h.ol gl rfl).2
  have h2 := (World.ownsRow.lt h.or_ gr rfl).2
  exact ⟨h1, h2, by have := h.ll; omega⟩

theorem MkS.below {base : Nat} {w w' : World} {Q : List Nd} {TL TR : List Nat} {gl cl gr cr : Nat} {vn vb : Value} {vs : List (Value × Value)} (h : MkS base w Q TL TR gl cl gr cr vn vb vs) (hb : Below w.heap.size w w') : MkS base w' Q TL TR gl cl gr cr vn vb vs :=
  ⟨h.bk.below hb, own_only h.ol (Only.of_below (F := fun _ => False) hb) (fun _ _ => id), own_only h.or_ (Only.of_below (F := fun _ => False) hb) (fun _ _ => id), h.ll, h.lr, h.ne, h.fl, h.fr, h.tl, h.tr, h.und⟩

theorem bk_nilM (w : World) : Bk w.heap.size (w.alloc (.cells #[.slice none 0 0, .slice none 0 0] 74)) w.heap.size [] (bornsOf []) (.slice none 0 0) (.slice none 0 0) [] (fun _ => False) :=
  ⟨by go_simp, by go_simp, by go_simp, by go_simp, Nat.le_refl _, World.ownsRow_nil _ _ _ _, rfl, fun j nd p hj => by simp at hj, World.ownsRow_nil _ _ _ _, by simp [Value.ownBlock], by simp [Value.ownBlock], fun g hg => by simp [Value.ownBlock] at hg⟩

theorem MkS.start (w : World) : MkS w.heap.size (((w.alloc (.cells #[.slice none 0 0, .slice none 0 0] 74)).alloc (.cells #[] 3)).alloc (.cells #[] 3)) [] [] [] (w.heap.size + 1) 0 (w.heap.size + 2) 0 (.slice none 0 0) (.slice none 0 0) [] := by
  have hz : (w.alloc (.cells #[.slice none 0 0, .slice none 0 0] 74)).heap.size = w.heap.size + 1 := by simp
  have hz2 : ((w.alloc (.cells #[.slice none 0 0, .slice none 0 0] 74)).alloc (.cells #[] 3)).heap.size = w.heap.size + 2 := by simp
  have hb : Below (w.alloc (.cells #[.slice none 0 0, .slice none 0 0] 74)).heap.size (w.alloc (.cells #[.slice none 0 0, .slice none 0 0] 74)) (((w.alloc (.cells #[.slice none 0 0, .slice none 0 0] 74)).alloc (.cells #[] 3)).alloc (.cells #[] 3)) := ((Below.refl _ _).alloc (Nat.le_refl _) _).alloc (by simp) _
  have nf : ∀ g, g ≠ w.heap.size → ¬ Foot w.heap.size (.slice none 0 0) (.slice none 0 0) g := fun g hg h => by
    rcases h with h | h | h
    · exact hg h
    · simp [Value.ownBlock] at h
    · simp [Value.ownBlock] at h
  refine ⟨((bk_nilM w).reX (Y := fun g => g = w.heap.size + 1 ∨ g = w.heap.size + 2) (fun g hg e => by rw [hz] at hg; omega)).below hb, ?_, ?_, by omega, by omega, by omega, nf _ (by omega), nf _ (by omega), fun t ht => by simp at ht, fun t ht => by simp at ht, fun k nd hk => by simp at hk⟩
  · have h := World.ownsRow_lit (base := w.heap.size) (e := 3) (size := 1) (w.alloc (.cells #[.slice none 0 0, .slice none 0 0] 74)) #[] 0 (by rw [hz]; omega) (by unfold maxLen; omega) rfl
    rw [hz] at h
    exact World.ownsRow.alloc h _
  · have h := World.ownsRow_lit (base := w.heap.size) (e := 3) (size := 1) ((w.alloc (.cells #[.slice none 0 0, .slice none 0 0] 74)).alloc (.cells #[] 3)) #[] 0 (by rw [hz2]; omega) (by unfold maxLen; omega) rfl
    rw [hz2] at h
    exact h

theorem upD_len (f : List Nd) : (f.map upN).length = f.length := by simp

/-- a game is put into the book -/
theorem MkS.root_calls {base : Nat} {wr : World} {Q : List Nd} {TL TR : List Nat} {gl cl gr cr : Nat} {vn vb : Value} {vs : List (Value × Value)} (h : MkS base wr Q TL TR gl cl gr cr vn vb vs) (W : World) (hW : Below wr.heap.size wr W) (v : Value) (f : List Nd) (hF : Fit f) (hn : Q.length ≤ 80000) (lo hi : Nat) (hh : hi ≤ base) (hv : NodesZ W lo hi v (f.map upN)) :
    Calls Try.prog 71 #[.pointer (some ⟨base, 0, none⟩), .agg #[v]] W fun e w' => e = .returned (.int .i64 ((addF (addF [] Q).1 f).2.getD (f.length - 1) 0 : Nat)) ∧ ∃ vn' vb' vs',
      Bk base w' base (addF (addF [] Q).1 f).1 (bornsOf (addF (addF [] Q).1 f).1) vn' vb' vs' (fun g => g = gl ∨ g = gr) ∧ Only W w' (Foot base vn vb) ∧ ∀ x, x < W.heap.size → Foot base vn' vb' x → Foot base vn vb x := by
  have hs := h.size
  have hz := hW.size
  refine root_callsX (fun g => g = gl ∨ g = gr) base base (addF [] Q).1 vn vb vs v f W lo hi hh (fun g hg => by rcases hg with hg | hg <;> omega) (fun g hg e => ?_) (h.bk.below hW) (addF_added [] book_nil Q h.und).book hv hF.under hF.pos (by have := (addF_len [] Q).2; have := hF.most; simp at *; omega) (fun nd hnd => by have := hF.small nd hnd; omega)
  rcases e with e | e
  · exact h.fl (e ▸ hg)
  · exact h.fr (e ▸ hg)

/-- ... and its place told -/
theorem MkS.next {base : Nat} {wr W w6 w7 : World} {Q : List Nd} {TL TR : List Nat} {gl cl gr cr : Nat} {vn vb vn' vb' v7 : Value} {vs vs' : List (Value × Value)} {f : List Nd} {u : Nat} (h : MkS base wr Q TL TR gl cl gr cr vn vb vs) (hF : Fit f) (hu : (addF (addF [] Q).1 f).2.getD (f.length - 1) 0 = u) (hW : Below wr.heap.size wr W)
    (hK6 : Bk base w6 base (addF (addF [] Q).1 f).1 (bornsOf (addF (addF [] Q).1 f).1) vn' vb' vs' (fun g => g = gl ∨ g = gr)) (ho6 : Only W w6 (Foot base vn vb)) (hf6 : ∀ g, g < W.heap.size → Foot base vn' vb' g → Foot base vn vb g)
    (hown7 : w7.ownsRow base 3 1 v7 (TL.length + 1) ((atT Q TL).map iv ++ [iv u])) (hgrow7 : (w6.alloc (.cells #[.int .i64 ((u : Nat) : Int)] 3)).grownBy w7 (Value.slice (some ⟨gl, 0, none⟩) TL.length cl).ownBlock)
    (hat7 : v7.ownBlock = (Value.slice (some ⟨gl, 0, none⟩) TL.length cl).ownBlock ∨ v7.ownBlock = some (w6.alloc (.cells #[.int .i64 ((u : Nat) : Int)] 3)).heap.size) :
    ∃ g7 c7, v7 = .slice (some ⟨g7, 0, none⟩) (TL.length + 1) c7 ∧ Hid (MkS base w7 (stk (Q, TL) f).1 (stk (Q, TL) f).2 TR g7 c7 gr cr vn' vb' vs') ∧ Hid (Below base wr w7) := by
  obtain ⟨g7, c7, rfl, _, hg7h⟩ := hown7.form (by omega)
  have hs := h.size
  have hll := h.ll
  have hlr := h.lr
  have hne := h.ne
  have HAPP : Only (w6.alloc (.cells #[.int .i64 ((u : Nat) : Int)] 3)) w7 (fun g => g = gl) := Only.of_grown hgrow7 (fun g e => by injection e with e; exact e.symm)
  have hal : Below w6.heap.size w6 (w6.alloc (.cells #[.int .i64 ((u : Nat) : Int)] 3)) := (Below.refl _ _).alloc (Nat.le_refl _) _
  have HK7a := hK6.below hal
  have hz6 : (w6.alloc (.cells #[.int .i64 ((u : Nat) : Int)] 3)).heap.size = w6.heap.size + 1 := by simp
  have hz5 := hW.size
  have hs6 := ho6.size
  have hglF : ¬ Foot base vn' vb' gl := fun hF => h.fl (hf6 gl (by omega) hF)
  have hgrF : ¬ Foot base vn' vb' gr := fun hF => h.fr (hf6 gr (by omega) hF)
  have hat : g7 = gl ∨ g7 = w6.heap.size + 1 := by
    rcases hat7 with e | e
    · left; injection e
    · right; rw [hz6] at e; injection e
  have HK7b := (HK7a.reX (Y := fun g => (g = gl ∨ g = w6.heap.size + 1) ∨ g = gr) (fun g hg e => by
    rcases e with (e | e) | e
    · exact Or.inl e
    · rw [hz6] at hg; omega
    · exact Or.inr e)).only (HAPP.mono (fun i _ e => Or.inl (Or.inl e))) (fun g hF e => by
    rcases e with (e | e) | e
    · exact hglF (e ▸ hF)
    · have := (HK7a.lt g hF).2; rw [hz6] at this; omega
    · exact hgrF (e ▸ hF))
  have HK7 : Bk base w7 base (addF (addF [] Q).1 f).1 (bornsOf (addF (addF [] Q).1 f).1) vn' vb' vs' (fun g => g = g7 ∨ g = gr) := HK7b.reX (fun g _ e => e.imp (fun e => by subst e; exact hat) id)
  have HNF7 : ¬ Foot base vn' vb' g7 := fun hF => by
    rcases hat with e | e
    · exact hglF (e ▸ hF)
    · have := (HK7a.lt g7 hF).2; rw [hz6] at this; omega
  have O6 : Only wr (w6.alloc (.cells #[.int .i64 ((u : Nat) : Int)] 3)) (Foot base vn vb) := ((Only.of_below (F := Foot base vn vb) hW).trans ho6 (fun i _ h => h)).trans (Only.of_below (F := Foot base vn vb) hal) (fun i _ h => h)
  have OT : Only wr w7 (fun g => Foot base vn vb g ∨ g = gl) := (O6.mono (fun i _ h => Or.inl h)).trans HAPP (fun i _ h => Or.inr h)
  have hR : w7.ownsRow base 3 1 (.slice (some ⟨gr, 0, none⟩) TR.length cr) TR.length ((atT Q TR).map iv) := own_only h.or_ OT (fun g e1 e2 => by
    injection e1 with e1
    subst e1
    rcases e2 with e2 | e2
    · exact h.fr e2
    · exact hne e2.symm)
  have hlen : Q.length ≤ (Q ++ shD Q.length f).length := by simp
  refine ⟨g7, c7, rfl, Lib.hid ⟨?_, ?_, ?_, by omega, hlr, by omega, HNF7, hgrF, ?_, fun t ht => Nat.lt_of_lt_of_le (h.tr t ht) hlen, under_sh h.und hF.under⟩, Lib.hid (OT.below (by omega) (fun g hg => by
    rcases hg with hg | hg
    · exact (h.bk.lt g hg).1
    · omega))⟩
  · show Bk base w7 base (addF [] (Q ++ shD Q.length f)).1 (bornsOf (addF [] (Q ++ shD Q.length f)).1) vn' vb' vs' _
    rw [addF_sh]
    exact HK7
  · show w7.ownsRow base 3 1 (.slice (some ⟨g7, 0, none⟩) (TL ++ [Q.length + f.length - 1]).length c7) (TL ++ [Q.length + f.length - 1]).length ((atT (Q ++ shD Q.length f) (TL ++ [Q.length + f.length - 1])).map iv)
    rw [atT_step Q TL f hF.pos h.tl, hu, List.map_append, List.length_append]
    exact hown7
  · show w7.ownsRow base 3 1 _ _ ((atT (Q ++ shD Q.length f) TR).map iv)
    rw [atT_keep Q TR f h.tr]
    exact hR
  · intro t ht
    have hp := hF.pos
    simp only [stk, List.mem_append, List.mem_singleton, List.length_append, shD_len] at ht ⊢
    rcases ht with ht | ht
    · have := h.tl t ht; omega
    · omega
end

section
open Go.RowKit
set_option linter.unusedVariables false
set_option linter.unusedSimpArgs false

/-- a list of numbers that lies apart from some blocks -/
def IntsV (w : World) (X : Nat → Prop) (u : Value) (l : List Int) : Prop := ∃ lo hi, hi ≤ w.heap.size ∧ (∀ g, X g → g < lo ∨ hi ≤ g) ∧ IntsZ w lo hi u l

theorem IntsV.only {w w' : World} {X F : Nat → Prop} {u : Value} {l : List Int} (h : IntsV w X u l) (ho : Only w w' F) (hF : ∀ g, g < w.heap.size → F g → X g) : IntsV w' X u l := by
  obtain ⟨lo, hi, h1, h2, h3⟩ := h
  exact ⟨lo, hi, Nat.le_trans h1 ho.size, h2, h3.keep (fun b o e1 e2 => ho.cell (by omega) (fun e => by have := h2 b (hF b (by omega) e); omega))⟩
theorem IntsV.below {w w' : World} {X : Nat → Prop} {u : Value} {l : List Int} (h : IntsV w X u l) (hb : Below w.heap.size w w') : IntsV w' X u l := h.only (Only.of_below (F := fun _ => False) hb) (fun _ _ h => h.elim)
theorem IntsV.reX {w : World} {X Y : Nat → Prop} {u : Value} {l : List Int} (h : IntsV w X u l) (hY : ∀ g, g < w.heap.size → Y g → X g) : IntsV w Y u l := by
  obtain ⟨lo, hi, h1, h2, h3⟩ := h
  refine ⟨lo, hi, h1, fun g hg => ?_, h3⟩
  rcases Nat.lt_or_ge g w.heap.size with h4 | h4
  · exact h2 g (hY g h4 hg)
  · right; omega
theorem IntsV.ints {w : World} {X : Nat → Prop} {u : Value} {l : List Int} (h : IntsV w X u l) : IntsZ w 0 w.heap.size u l := by
  obtain ⟨lo, hi, h1, h2, h3⟩ := h
  exact h3.wide (Nat.zero_le _) h1
theorem IntsV.one {w : World} {X : Nat → Prop} {u : Value} {l : List Int} (h : IntsV w X u l) : u.oneCell' = true := by
  obtain ⟨_, _, _, _, ao, c, rfl, _⟩ := h
  rfl

/-- the blocks that a pile's lists lie apart from -/
def PX (v : Value) (X : Nat → Prop) (g : Nat) : Prop := v.ownBlock = some g ∨ X g

structure PileZ (w : World) (base : Nat) (v : Value) (vs : List (Value × Value)) (F : List Nz) (X : Nat → Prop) : Prop where
  row : w.ownsRow base 57 2 v F.length (rowN2 vs)
  len : vs.length = F.length
  list : ∀ (j : Nat) (nd : Nz) (p : Value × Value), F[j]? = some nd → vs[j]? = some p → IntsV w (PX v X) p.1 nd.1 ∧ IntsV w (PX v X) p.2 nd.2

theorem PileZ.lt {w : World} {base : Nat} {v : Value} {vs : List (Value × Value)} {F : List Nz} {X : Nat → Prop} (h : PileZ w base v vs F X) : ∀ g, v.ownBlock = some g → base ≤ g ∧ g < w.heap.size := World.ownsRow.lt h.row
theorem PileZ.below {w w' : World} {base : Nat} {v : Value} {vs : List (Value × Value)} {F : List Nz} {X : Nat → Prop} (h : PileZ w base v vs F X) (hb : Below w.heap.size w w') : PileZ w' base v vs F X :=
  ⟨own_only h.row (Only.of_below (F := fun _ => False) hb) (fun _ _ => id), h.len, fun j nd p h1 h2 => ⟨(h.list j nd p h1 h2).1.below hb, (h.list j nd p h1 h2).2.below hb⟩⟩
theorem PileZ.only {w w' : World} {base : Nat} {v : Value} {vs : List (Value × Value)} {F : List Nz} {X : Nat → Prop} (h : PileZ w base v vs F X) (ho : Only w w' X) (hd : ∀ g, v.ownBlock = some g → ¬ X g) : PileZ w' base v vs F X :=
  ⟨own_only h.row ho hd, h.len, fun j nd p h1 h2 => ⟨(h.list j nd p h1 h2).1.only ho (fun _ _ e => Or.inr e), (h.list j nd p h1 h2).2.only ho (fun _ _ e => Or.inr e)⟩⟩
theorem PileZ.reX {w : World} {base : Nat} {v : Value} {vs : List (Value × Value)} {F : List Nz} {X Y : Nat → Prop} (h : PileZ w base v vs F X) (hY : ∀ g, g < w.heap.size → Y g → X g) : PileZ w base v vs F Y :=
  ⟨h.row, h.len, fun j nd p h1 h2 => ⟨(h.list j nd p h1 h2).1.reX (fun g hg e => e.imp id (hY g hg)), (h.list j nd p h1 h2).2.reX (fun g hg e => e.imp id (hY g hg))⟩⟩
theorem PileZ.mono {w : World} {base base' : Nat} {v : Value} {vs : List (Value × Value)} {F : List Nz} {X : Nat → Prop} (h : PileZ w base v vs F X) (hb : base' ≤ base) : PileZ w base' v vs F X := ⟨World.ownsRow.mono h.row hb, h.len, h.list⟩
theorem PileZ.nil (w : World) (base : Nat) (X : Nat → Prop) : PileZ w base (.slice none 0 0) [] [] X := ⟨World.ownsRow_nil _ _ _ _, rfl, fun j nd p h => by simp at h⟩
theorem PileZ.shape {w : World} {base : Nat} {v : Value} {vs : List (Value × Value)} {F : List Nz} {X : Nat → Prop} (h : PileZ w base v vs F X) : ∃ a c, v = .slice a F.length c := by
  rcases h.row.2 with ⟨h1, h0⟩ | ⟨g, c, cs, h1, _⟩
  · exact ⟨none, 0, by rw [h1, h0]⟩
  · exact ⟨_, _, h1⟩

theorem PileZ.snoc {w w' : World} {base : Nat} {v v' : Value} {vs : List (Value × Value)} {F : List Nz} {X : Nat → Prop} {p : Value × Value} {nd : Nz} (h : PileZ w base v vs F X) (hg : w.grownBy w' v.ownBlock)
    (hn : w'.ownsRow base 57 2 v' (F.length + 1) (rowN2 vs ++ [p.1, p.2])) (hat : v'.ownBlock = v.ownBlock ∨ v'.ownBlock = some w.heap.size) (h1 : IntsV w (PX v X) p.1 nd.1) (h2 : IntsV w (PX v X) p.2 nd.2) : PileZ w' base v' (vs ++ [p]) (F ++ [nd]) X := by
  have ho : Only w w' (fun b => v.ownBlock = some b) := Only.of_grown hg (fun g e => e)
  have go : ∀ {u : Value} {l : List Int}, IntsV w (PX v X) u l → IntsV w' (PX v' X) u l := fun hi => by
    have h0 : IntsV w (PX v' X) _ _ := hi.reX (Y := PX v' X) (fun g hg e => by
      rcases e with e | e
      · rcases hat with e2 | e2
        · exact Or.inl (e2 ▸ e)
        · rw [e2] at e; injection e with e; omega
      · exact Or.inr e)
    obtain ⟨lo, hi', a1, a2, a3⟩ := hi
    refine ⟨lo, hi', Nat.le_trans a1 hg.size, fun g e => ?_, a3.keep (fun b o e1 e2 => ho.cell (by omega) (fun e => by have := a2 b (Or.inl e); omega))⟩
    rcases e with e | e
    · rcases hat with e2 | e2
      · exact a2 g (Or.inl (e2 ▸ e))
      · rw [e2] at e; injection e with e; omega
    · exact a2 g (Or.inr e)
  refine ⟨by rw [rowN2_snoc, List.length_append]; exact hn, by simp [h.len], fun j n0 q hj hq => ?_⟩
  rcases get_snoc hj with hj1 | ⟨ej, rfl⟩
  · rcases get_snoc hq with hq1 | ⟨eq, _⟩
    · have hl := h.list j n0 q hj1 hq1
      exact ⟨go hl.1, go hl.2⟩
    · exfalso
      have := get_lt hj1
      have := h.len
      omega
  · rcases get_snoc hq with hq1 | ⟨_, eq⟩
    · exfalso
      have := get_lt hq1
      have := h.len
      omega
    · rw [eq]
      exact ⟨go h1, go h2⟩

/-- a list made later lies apart from what was there -/
theorem intsV_own {w w1 w' : World} {base base1 : Nat} {q u : Value} {vs : List (Value × Value)} {F : List Nz} {X : Nat → Prop} {l : List Int} (hq : PileZ w base q vs F X) (hX : ∀ g, X g → g < w.heap.size) (ho : OwnI w1 base1 u l) (h1 : w.heap.size ≤ base1) (hb : Below w1.heap.size w1 w') : IntsV w' (PX q X) u l :=
  ⟨base1, w1.heap.size, hb.size, fun g e => Or.inl (by
    rcases e with e | e
    · have := (hq.lt g e).2; omega
    · have := hX g e; omega), ho.ints.below hb (Nat.le_refl _)⟩

theorem PileZ.nodesZ {w : World} {base : Nat} {v : Value} {vs : List (Value × Value)} {F : List Nz} {X : Nat → Prop} (h : PileZ w base v vs F X) : NodesZ w 0 w.heap.size v F := by
  rcases h.row.2 with ⟨h1, h0⟩ | ⟨g, c, cs, h1, _⟩
  · have hl : F = [] := List.length_eq_zero_iff.1 h0
    subst hl
    exact ⟨none, 0, by rw [h1]; rfl, by simp, fun j nd hj => by simp at hj⟩
  · subst h1
    have hn := h.row
    have hlt := World.ownsRow.lt hn _ rfl
    refine ⟨_, c, rfl, World.ownsRow.caps hn, fun j nd hj => ?_⟩
    have hjl := get_lt hj
    obtain ⟨p, hp⟩ := lt_get (l := vs) (i := j) (by rw [h.len]; exact hjl)
    have hr := rowN2_at vs j p hp
    obtain ⟨i1, i2⟩ := h.list j nd p hj hp
    refine ⟨g, 0, p.1, p.2, rfl, Nat.zero_le _, hlt.2, ?_, ?_, i1.ints, i2.ints⟩
    · rw [Nat.zero_add, World.ownsRow.cellAt hn (j * 2) (by omega)]; exact hr.1
    · rw [Nat.zero_add, World.ownsRow.cellAt hn (j * 2 + 1) (by omega)]; exact hr.2

/-- where the lists lie -/
theorem IntsV.low {w : World} {X : Nat → Prop} {u : Value} {l : List Int} {m : Nat} (h : IntsV w X u l) (hX : ∀ g, g < m → X g) : IntsZ w m w.heap.size u l := by
  obtain ⟨lo, hi, h1, h2, ao, c, e, h3, h4⟩ := h
  refine ⟨ao, c, e, h3, fun j x hx => ?_⟩
  obtain ⟨b, off, e1, e2, e3, e4⟩ := h4 j x hx
  refine ⟨b, off, e1, ?_, by omega, e4⟩
  rcases Nat.lt_or_ge b m with h5 | h5
  · have := h2 b (hX b h5); omega
  · exact h5
theorem PileZ.nodesL {w : World} {base m : Nat} {v : Value} {vs : List (Value × Value)} {F : List Nz} {X : Nat → Prop} (h : PileZ w base v vs F X) (hm : m ≤ base) (hX : ∀ g, g < m → X g) : NodesZ w m w.heap.size v F := by
  rcases h.row.2 with ⟨h1, h0⟩ | ⟨g, c, cs, h1, _⟩
  · have hl : F = [] := List.length_eq_zero_iff.1 h0
    subst hl
    exact ⟨none, 0, by rw [h1]; rfl, by simp, fun j nd hj => by simp at hj⟩
  · subst h1
    have hn := h.row
    have hlt := World.ownsRow.lt hn _ rfl
    refine ⟨_, c, rfl, World.ownsRow.caps hn, fun j nd hj => ?_⟩
    have hjl := get_lt hj
    obtain ⟨p, hp⟩ := lt_get (l := vs) (i := j) (by rw [h.len]; exact hjl)
    have hr := rowN2_at vs j p hp
    obtain ⟨i1, i2⟩ := h.list j nd p hj hp
    refine ⟨g, 0, p.1, p.2, rfl, Nat.le_trans hm hlt.1, hlt.2, ?_, ?_, i1.low (fun g hg => Or.inr (hX g hg)), i2.low (fun g hg => Or.inr (hX g hg))⟩
    · rw [Nat.zero_add, World.ownsRow.cellAt hn (j * 2) (by omega)]; exact hr.1
    · rw [Nat.zero_add, World.ownsRow.cellAt hn (j * 2 + 1) (by omega)]; exact hr.2

theorem shift_wrap (x m : Nat) (h : x + m ≤ 1000000) : IntKind.i64.wrap ((x : Int) + (m : Int)) = ((x + m : Nat) : Int) := by
  rw [← Int.natCast_add]
  exact IntWalk.i64_in _ (by omega)

/-- the shifted numbers so far, and zeros -/
def shiftP (l : List Nat) (m k : Nat) : List Int := upL ((l.take k).map (· + m)) ++ List.replicate (l.length - k) 0
theorem shiftP_len (l : List Nat) (m k : Nat) (h : k ≤ l.length) : (shiftP l m k).length = l.length := by unfold shiftP upL; simp; omega
theorem shiftP_set (l : List Nat) (m k x : Nat) (h : l[k]? = some x) : (shiftP l m k).set k ((x + m : Nat) : Int) = shiftP l m (k + 1) := by
  have hk := get_lt h
  unfold shiftP
  have e1 : (upL ((l.take k).map (· + m))).length = k := by unfold upL; simp; omega
  rw [List.set_append_right _ _ (by rw [e1]; exact Nat.le_refl _), e1, Nat.sub_self, show l.length - k = (l.length - (k + 1)) + 1 from by omega, List.replicate_succ, List.set_cons_zero, List.take_add_one, h, List.map_append]
  unfold upL
  simp
theorem shiftP_all (l : List Nat) (m : Nat) : shiftP l m l.length = upL (l.map (· + m)) := by simp [shiftP]

set_option maxRecDepth 100000 in
set_option maxHeartbeats 1000000 in
theorem shifted_calls (v : Value) (l : List Nat) (m : Nat) (w : World) (lo hi : Nat) (hh : hi ≤ w.heap.size) (hv : IntsZ w lo hi v (upL l)) (hl : l.length ≤ 1000) (hx : ∀ x ∈ l, x + m ≤ 1000000) :
    Calls Try.prog 35 #[v, .int .i64 m] w fun e w' => ∃ g, e = .returned (.slice (some ⟨g, 0, none⟩) l.length l.length) ∧ OwnI w' w.heap.size (.slice (some ⟨g, 0, none⟩) l.length l.length) (upL (l.map (· + m))) ∧ Below w.heap.size w w' := by
  obtain ⟨i0, hi0, hz0, hz1, hz2⟩ := info_parts infoIntA
  obtain ⟨at', ct, rfl, hct⟩ := ints_lenP hv
  have HV := Lib.hid hv
  have HX := Lib.hid hx
  clear hv hx
  go_enter Try.func35, Try.ntmps35
  go_wp2_with (at_make; refine wpList_make_full _ rfl _ _ 41 rfl w.heap.size 3 i0 (.int .i64 0) 1 Try.underlying41 hi0 hz0 hz1 _ _ _ _ l.length rfl rfl rfl rfl (by rw [hz2]; omega) (by unfold maxLen; omega) (Nat.le_refl _) ?_; intro w1 hown hg)
  have HO : Hid (OwnI w1 w.heap.size (.slice (some ⟨w.heap.size, 0, none⟩) l.length l.length) (shiftP l m 0)) := Lib.hid (by
    have e : (madeCells (Value.int .i64 0).cells (l.length * 1)).toList = List.replicate l.length (.int .i64 0) := by
      show (madeCells #[Value.int .i64 0] (l.length * 1)).toList = _
      rw [Nat.mul_one, made_one]
    rw [e] at hown
    unfold OwnI
    rw [shiftP_len l m 0 (Nat.zero_le _)]
    simpa [shiftP, upL] using hown)
  have HB : Hid (Below w.heap.size w w1) := Lib.hid ((Below.refl _ _).grown hg (Nat.le_refl _) (fun k hk => by cases hk))
  clear hown hg
  go_wp2
  go_loopw [13] (fun i wr => ∃ k : Nat, k ≤ l.length ∧ i = .int .i64 k ∧ Hid (OwnI wr w.heap.size (.slice (some ⟨w.heap.size, 0, none⟩) l.length l.length) (shiftP l m k)) ∧ Hid (Below w.heap.size w wr)) (fun i _ => l.length - (intOf i).toNat)
  case atStart => exact ⟨0, Nat.zero_le _, rfl, HO, HB⟩
  case round =>
    obtain ⟨k, hk, rfl, ho, hb⟩ := hrel
    clear HO HB
    by_cases hlt : k < l.length
    · obtain ⟨x, hx⟩ := lt_get hlt
      obtain ⟨b1, o1, rfl, _, q1⟩ := ints_atP (HV.out.below hb.out hh) hx
      have hxm := HX.out x (List.mem_of_getElem? hx)
      have hwr := shift_wrap x m hxm
      obtain ⟨y, hy⟩ := lt_get (l := shiftP l m k) (i := k) (by rw [shiftP_len l m k hk]; exact hlt)
      have hat := ho.out.at_ hy
      have hput := (ho.out.put (x := k) (v := ((x + m : Nat) : Int)))
      rw [shiftP_set l m k x hx] at hput
      obtain ⟨qc, qf⟩ := hat
      have R1 := Lib.hid hput.1
      have R2 : Hid (Below w.heap.size w (wr.setCell ⟨w.heap.size, k, none⟩ (.int .i64 ((x + m : Nat) : Int)))) := Lib.hid (hb.out.setCell (Nat.le_refl _) _)
      have k0 : (0 : Int) ≤ k := by omega
      have k1 : (k : Int) < l.length := by omega
      clear hput ho hb hx hy
      go_wp2
      go_roundw
      case rel => exact ⟨k + 1, by omega, by go_num, R1, R2⟩
      case measure => first | (simp [intOf]; done) | (simp [intOf]; omega)
    · have hke : k = l.length := by omega
      subst hke
      have HF : Hid (OwnI wr w.heap.size (.slice (some ⟨w.heap.size, 0, none⟩) l.length l.length) (upL (l.map (· + m)))) := Lib.hid (by have h := ho.out; rw [shiftP_all] at h; exact h)
      clear ho
      go_wp2
      go_ret
      exact ⟨_, rfl, HF.out, hb.out⟩
end

section
section
open Go.RowKit
set_option linter.unusedVariables false
set_option linter.unusedSimpArgs false

theorem slice_form {w : World} {lo hi : Nat} {v : Value} {f : List Nz} (h : NodesZ w lo hi v f) : ∃ a c, v = .slice a f.length c := by obtain ⟨a, c, e, _⟩ := h; exact ⟨a, c, e⟩

theorem l3If_calls (v : Value) (f : List Nz) (ok : Bool) (hok : Hid (fitsB f = ok)) (w : World) (lo hi : Nat) (hh : hi ≤ w.heap.size) (hv : NodesZ w lo hi v f) :
    Calls Try.prog 29 #[.agg #[v]] w fun e w' => e = .returned (.tuple #[.agg #[if ok then v else .slice none 0 0], .bool ok]) ∧ Below w.heap.size w w' := by
  have HB0 := Lib.hid fun o o' => show Below w.heap.size w ((w.alloc o).alloc o') from ((Below.refl _ _).alloc (Nat.le_refl _) _).alloc (by simp) _
  have C := Lib.hid fun (W : World) (hW : Below w.heap.size w W) => show Calls Try.prog 48 #[.agg #[v]] W fun e w' => e = .returned (.bool ok) ∧ Below W.heap.size W w' from by
    rw [← hok.out]
    exact fitsS_calls v f W lo hi (Nat.le_trans hh hW.size) (hv.below hW hh)
  obtain ⟨av, cv, rfl⟩ := slice_form hv
  clear hok hv
  go_enter Try.func29, Try.ntmps29
  go_wp2_with fail
  refine (C.out _ (HB0.out _ _)).mono ?_
  rintro e w4 ⟨rfl, hb4⟩
  have k0 : w4.cell? ⟨w.heap.size, 0, none⟩ = some (.slice av f.length cv) := (bcell hb4 _ _ (by simp; omega)).trans (by go_simp)
  obtain ⟨d0, z0⟩ : BoxAt w4 (w.heap.size + 1) (.slice none 0 0) := BoxAt.below ⟨by go_simp, by go_simp⟩ hb4
  have HB4 := Lib.hid (Below.trans (HB0.out _ _) (hb4.mono (by simp; omega)))
  have hlt := block_of_cell d0
  clear hb4 C
  cases ok with
  | false =>
    have B4 := Lib.hid (HB4.out.setCell (p := ⟨w.heap.size + 1, 0, none⟩) (by show w.heap.size ≤ w.heap.size + 1; omega) (.slice none 0 0))
    have hcr := World.cell?_setCell_same w4 ⟨w.heap.size + 1, 0, none⟩ (.slice none 0 0) d0
    go_wp2_with fail
    exact bodyPost_ret (v := .tuple #[.agg #[.slice none 0 0], .bool false]) (by simp [results, Try.results29, go_sem, hcr]) rfl ⟨rfl, B4.out⟩
  | true =>
    have B4 := Lib.hid (HB4.out.setCell (p := ⟨w.heap.size + 1, 0, none⟩) (by show w.heap.size ≤ w.heap.size + 1; omega) (.slice av f.length cv))
    have hcr := World.cell?_setCell_same w4 ⟨w.heap.size + 1, 0, none⟩ (.slice av f.length cv) d0
    go_wp2_with fail
    exact bodyPost_ret (v := .tuple #[.agg #[.slice av f.length cv], .bool true]) (by simp [results, Try.results29, go_sem, hcr]) rfl ⟨rfl, B4.out⟩

theorem fitsN_B (P : List Nd) : fitsN P = fitsB (P.map upN) := by
  have h1 := fitsN_iff P
  have h2 := fitsB_iff (P.map upN)
  cases hN : fitsN P <;> cases hB : fitsB (P.map upN)
  · rfl
  · rw [h2] at hB; rw [h1.2 hB] at hN; exact hN.symm
  · rw [h1] at hN; rw [h2.2 hN] at hB; exact hB
  · rfl

end
end

section
section
open Go.RowKit
set_option linter.unusedVariables false
set_option linter.unusedSimpArgs false

theorem nodeS_at {P : List Nd} {w : World} {lo hi : Nat} {ao : Option Addr} {c i : Nat} {nd : Nd} (h : NodesZ w lo hi (.slice ao P.length c) (P.map upN)) (hnd : P[i]? = some nd) :
    ∃ b off x1 y1 x2 y2, ao = some ⟨b, off, none⟩ ∧ w.cell? ⟨b, off + i * 2, none⟩ = some (.slice x1 nd.1.length y1) ∧ w.cell? ⟨b, off + i * 2 + 1, none⟩ = some (.slice x2 nd.2.length y2) ∧ IntsZ w lo hi (.slice x1 nd.1.length y1) (upL nd.1) ∧ IntsZ w lo hi (.slice x2 nd.2.length y2) (upL nd.2) := by
  obtain ⟨b, off, cc, v1, v2, e, hbh, p1, p2, i1, i2⟩ := nodes_atP h hnd
  obtain ⟨q1, q2, q3⟩ := slice_inj e
  obtain ⟨a1, d1, rfl, _⟩ := ints_lenP i1
  obtain ⟨a2, d2, rfl, _⟩ := ints_lenP i2
  exact ⟨b, off, a1, d1, a2, d2, q1, p1, p2, i1, i2⟩

theorem at_cell {base : Nat} {wr : World} {P : List Nd} {ga ca : Nat} {vn vb : Value} {vs : List (Value × Value)} (h : BkAt base wr P ga ca vn vb vs) {x : Nat} (hx : x < P.length) : wr.cell? ⟨ga, x, none⟩ = some (.int .i64 (((addF [] P).2.getD x 0 : Nat) : Int)) := by
  obtain ⟨z, hz⟩ := lt_get (l := (addF [] P).2) (i := x) (by rw [at_len]; exact hx)
  rw [World.ownsRow.cellAt h.own x (by omega), List.getElem?_map, hz, List.getD_eq_getElem?_getD, hz]
  rfl

end
end

section
section
open Go.RowKit
set_option linter.unusedVariables false
set_option linter.unusedSimpArgs false

theorem mul_cast {m n : Nat} (h : m * n ≤ 1000000) : IntKind.i64.wrap ((m : Int) * (n : Int)) = ((m * n : Nat) : Int) := by
  rw [← Int.natCast_mul]
  exact IntWalk.i64_in _ (by omega)

theorem pairB_parts {f g : List Nz} {r1 r2 r : Bool} (h1 : goodB f = r1) (h2 : goodB g = r2) (hr : pairB f g = r) : r = (r1 && (r2 && decide (f.length * g.length ≤ 1600))) := by
  rw [← hr, ← h1, ← h2]; rfl

set_option maxRecDepth 100000 in
set_option maxHeartbeats 2000000 in
theorem goodPair_calls (va vb : Value) (f g : List Nz) (r : Bool) (hr : Hid (pairB f g = r)) (w : World) (lo hi lo' hi' : Nat) (hh : hi ≤ w.heap.size) (hh' : hi' ≤ w.heap.size) (hva : NodesZ w lo hi va f) (hvb : NodesZ w lo' hi' vb g) :
    Calls Try.prog 32 #[.agg #[va], .agg #[vb]] w fun e w' => e = .returned (.bool r) ∧ Below w.heap.size w w' := by
  have HB0 := Lib.hid fun o o' => show Below w.heap.size w ((w.alloc o).alloc o') from ((Below.refl _ _).alloc (Nat.le_refl _) _).alloc (by simp) _
  obtain ⟨r1, h1⟩ : ∃ r, goodB f = r := ⟨_, rfl⟩
  obtain ⟨r2, h2⟩ : ∃ r, goodB g = r := ⟨_, rfl⟩
  have HR := Lib.hid (pairB_parts h1 h2 hr.out)
  have HLA : Hid (r1 = true → f.length ≤ 120) := Lib.hid (fun e => (good_parts (h1.trans e)).2.2.2.2.1)
  have HLB : Hid (r2 = true → g.length ≤ 120) := Lib.hid (fun e => (good_parts (h2.trans e)).2.2.2.2.1)
  have CA := Lib.hid fun (W : World) (hW : Below w.heap.size w W) => goodI_res va f r1 (Lib.hid h1) W lo hi (Nat.le_trans hh hW.size) (hva.below hW hh)
  have CB := Lib.hid fun (W : World) (hW : Below w.heap.size w W) => goodI_res vb g r2 (Lib.hid h2) W lo' hi' (Nat.le_trans hh' hW.size) (hvb.below hW hh')
  obtain ⟨aa, ca, rfl⟩ : ∃ ao c, va = .slice ao f.length c := by obtain ⟨ao, c, e, _⟩ := hva; exact ⟨ao, c, e⟩
  obtain ⟨ab, cb, rfl⟩ : ∃ ao c, vb = .slice ao g.length c := by obtain ⟨ao, c, e, _⟩ := hvb; exact ⟨ao, c, e⟩
  clear h1 h2 hr hva hvb
  go_enter Try.func32, Try.ntmps32
  go_wp2_with fail
  refine (CA.out _ (HB0.out _ _)).mono ?_
  rintro e w4 ⟨rfl, hb4⟩
  have k1 : w4.cell? ⟨w.heap.size, 0, none⟩ = some (.slice aa f.length ca) := (bcell hb4 _ _ (by simp; omega)).trans (by go_simp)
  have k2 : w4.cell? ⟨w.heap.size + 1, 0, none⟩ = some (.slice ab g.length cb) := (bcell hb4 _ _ (by simp)).trans (by go_simp)
  have HB4 := Lib.hid (Below.trans (HB0.out _ _) (hb4.mono (by simp; omega)))
  clear hb4 CA
  cases r1 with
  | false =>
    obtain rfl := HR.out
    go_wp2_with fail
    go_ret
    exact ⟨rfl, HB4.out⟩
  | true =>
    have b1 := block_of_cell k1
    have b2 := block_of_cell k2
    go_wp2_with fail
    refine (CB.out _ HB4.out).mono ?_
    rintro e w5 ⟨rfl, hb5⟩
    have k1 := (bcell hb5 _ _ b1).trans k1
    have k2 := (bcell hb5 _ _ b2).trans k2
    have HB5 := Lib.hid (HB4.out.trans (hb5.mono HB4.out.size))
    clear hb5 b1 b2
    cases r2 with
    | false =>
      obtain rfl := HR.out
      go_wp2_with fail
      go_ret
      exact ⟨rfl, HB5.out⟩
    | true =>
      have hla : f.length ≤ 120 := by have h := HLA.out; simpa using h
      have hlb : g.length ≤ 120 := by have h := HLB.out; simpa using h
      have hAB : f.length * g.length ≤ 120 * 120 := Nat.mul_le_mul hla hlb
      obtain ⟨n, hn⟩ : ∃ n : Nat, f.length * g.length = n := ⟨_, rfl⟩
      have HR2 : Hid (r = decide (n ≤ 1600)) := Lib.hid (by rw [HR.out, hn]; rfl)
      have hwm : IntKind.i64.wrap ((f.length : Int) * (g.length : Int)) = (n : Int) := by rw [mul_cast (by omega), hn]
      rw [hn] at hAB
      clear hn HR
      have hde : decide ((n : Int) ≤ 1600) = r := by rw [HR2.out]; exact decide_eq_decide.2 (by clear hwm; omega)
      go_wp2_with fail
      go_ret
      exact ⟨by first | rfl | exact ret_bool hde, HB5.out⟩

end
end

section
section
open Go.RowKit
set_option linter.unusedVariables false
set_option linter.unusedSimpArgs false

theorem mulS_cast {m n : Nat} (h : m * n ≤ 1000000) : IntKind.i64.wrap ((m : Int) * (n : Int)) = ((m * n : Nat) : Int) := by
  rw [← Int.natCast_mul]
  exact IntWalk.i64_in _ (by omega)

set_option maxRecDepth 100000 in
set_option maxHeartbeats 2000000 in
theorem l5Pair_calls (va vb : Value) (f g : List Nz) (r : Bool) (hr : Hid (pairB f g = r)) (w : World) (lo hi lo' hi' : Nat) (hh : hi ≤ w.heap.size) (hh' : hi' ≤ w.heap.size) (hva : NodesZ w lo hi va f) (hvb : NodesZ w lo' hi' vb g) :
    Calls Try.prog 28 #[.agg #[va], .agg #[vb]] w fun e w' => e = .returned (.bool r) ∧ Below w.heap.size w w' := by
  have HB0 := Lib.hid fun o o' => show Below w.heap.size w ((w.alloc o).alloc o') from ((Below.refl _ _).alloc (Nat.le_refl _) _).alloc (by simp) _
  obtain ⟨r1, h1⟩ : ∃ r, goodB f = r := ⟨_, rfl⟩
  obtain ⟨r2, h2⟩ : ∃ r, goodB g = r := ⟨_, rfl⟩
  have HR := Lib.hid (pairB_parts h1 h2 hr.out)
  have HLA : Hid (r1 = true → f.length ≤ 120) := Lib.hid (fun e => (good_parts (h1.trans e)).2.2.2.2.1)
  have HLB : Hid (r2 = true → g.length ≤ 120) := Lib.hid (fun e => (good_parts (h2.trans e)).2.2.2.2.1)
  have CA := Lib.hid fun (W : World) (hW : Below w.heap.size w W) => goodS_res va f r1 (Lib.hid h1) W lo hi (Nat.le_trans hh hW.size) (hva.below hW hh)
  have CB := Lib.hid fun (W : World) (hW : Below w.heap.size w W) => goodS_res vb g r2 (Lib.hid h2) W lo' hi' (Nat.le_trans hh' hW.size) (hvb.below hW hh')
  obtain ⟨aa, ca, rfl⟩ : ∃ ao c, va = .slice ao f.length c := by obtain ⟨ao, c, e, _⟩ := hva; exact ⟨ao, c, e⟩
  obtain ⟨ab, cb, rfl⟩ : ∃ ao c, vb = .slice ao g.length c := by obtain ⟨ao, c, e, _⟩ := hvb; exact ⟨ao, c, e⟩
  clear h1 h2 hr hva hvb
  go_enter Try.func28, Try.ntmps28
  go_wp2_with fail
  refine (CA.out _ (HB0.out _ _)).mono ?_
  rintro e w4 ⟨rfl, hb4⟩
  have k1 : w4.cell? ⟨w.heap.size, 0, none⟩ = some (.slice aa f.length ca) := (bcell hb4 _ _ (by simp; omega)).trans (by go_simp)
  have k2 : w4.cell? ⟨w.heap.size + 1, 0, none⟩ = some (.slice ab g.length cb) := (bcell hb4 _ _ (by simp)).trans (by go_simp)
  have HB4 := Lib.hid (Below.trans (HB0.out _ _) (hb4.mono (by simp; omega)))
  clear hb4 CA
  cases r1 with
  | false =>
    obtain rfl := HR.out
    go_wp2_with fail
    go_ret
    exact ⟨rfl, HB4.out⟩
  | true =>
    have b1 := block_of_cell k1
    have b2 := block_of_cell k2
    go_wp2_with fail
    refine (CB.out _ HB4.out).mono ?_
    rintro e w5 ⟨rfl, hb5⟩
    have k1 := (bcell hb5 _ _ b1).trans k1
    have k2 := (bcell hb5 _ _ b2).trans k2
    have HB5 := Lib.hid (HB4.out.trans (hb5.mono HB4.out.size))
    clear hb5 b1 b2
    cases r2 with
    | false =>
      obtain rfl := HR.out
      go_wp2_with fail
      go_ret
      exact ⟨rfl, HB5.out⟩
    | true =>
      have hla : f.length ≤ 120 := by have h := HLA.out; simpa using h
      have hlb : g.length ≤ 120 := by have h := HLB.out; simpa using h
      have hAB : f.length * g.length ≤ 120 * 120 := Nat.mul_le_mul hla hlb
      obtain ⟨n, hn⟩ : ∃ n : Nat, f.length * g.length = n := ⟨_, rfl⟩
      have HR2 : Hid (r = decide (n ≤ 1600)) := Lib.hid (by rw [HR.out, hn]; rfl)
      have hwm : IntKind.i64.wrap ((f.length : Int) * (g.length : Int)) = (n : Int) := by rw [mul_cast (by omega), hn]
      rw [hn] at hAB
      clear hn HR
      have hde : decide ((n : Int) ≤ 1600) = r := by rw [HR2.out]; exact decide_eq_decide.2 (by clear hwm; omega)
      go_wp2_with fail
      go_ret
      exact ⟨by first | rfl | exact ret_bool hde, HB5.out⟩

end
end

section
set_option linter.unusedVariables false
set_option linter.unusedSimpArgs false

/-- b's node above a's last -/
def ordN (n : Nat) (a nd : Nd) : Nd := (a.1 ++ nd.1.map (· + n), a.2 ++ nd.2.map (· + n))
/-- a's nodes, and above the last of them b's but the first -/
def ordD (A : List Nd) (a : Nd) (B : List Nd) : List Nd := A ++ B.map (ordN (A.length - 1) a)
theorem ordD_nil (A : List Nd) (a : Nd) : ordD A a [] = A := by simp [ordD]
theorem ordD_snoc (A : List Nd) (a nd : Nd) (B : List Nd) : ordD A a (B ++ [nd]) = ordD A a B ++ [ordN (A.length - 1) a nd] := by simp [ordD]
theorem ordD_len (A : List Nd) (a : Nd) (B : List Nd) : (ordD A a B).length = A.length + B.length := by simp [ordD]
theorem ordD_left {A : List Nd} {a : Nd} {B : List Nd} {k : Nat} (h : k < A.length) : (ordD A a B)[k]? = A[k]? := by unfold ordD; rw [List.getElem?_append_left h]
theorem ordD_right {A : List Nd} {a nd : Nd} {B : List Nd} {k : Nat} (h : B[k]? = some nd) : (ordD A a B)[A.length + k]? = some (ordN (A.length - 1) a nd) := by
  unfold ordD
  rw [List.getElem?_append_right (by omega), show A.length + k - A.length = k by omega, List.getElem?_map, h]
  rfl
theorem ordD_get {A : List Nd} {a nd : Nd} {B : List Nd} {k : Nat} (h : (ordD A a B)[k]? = some nd) : (k < A.length ∧ A[k]? = some nd) ∨ ∃ j x, k = A.length + j ∧ B[j]? = some x ∧ nd = ordN (A.length - 1) a x := by
  rcases Nat.lt_or_ge k A.length with hlt | hge
  · rw [ordD_left hlt] at h
    exact Or.inl ⟨hlt, h⟩
  · unfold ordD at h
    rw [List.getElem?_append_right hge, List.getElem?_map] at h
    cases hx : B[k - A.length]? with
    | none => rw [hx] at h; cases h
    | some x =>
      rw [hx] at h
      simp only [Option.map_some, Option.some.injEq] at h
      exact Or.inr ⟨k - A.length, x, by omega, hx, h.symm⟩
theorem ordN_mem {n x : Nat} {a nd : Nd} (h : x ∈ (ordN n a nd).1 ∨ x ∈ (ordN n a nd).2) : (x ∈ a.1 ∨ x ∈ a.2) ∨ ∃ y, (y ∈ nd.1 ∨ y ∈ nd.2) ∧ x = y + n := by
  unfold ordN at h
  simp only [List.mem_append, List.mem_map] at h
  rcases h with (h | ⟨y, h, rfl⟩) | (h | ⟨y, h, rfl⟩)
  · exact Or.inl (Or.inl h)
  · exact Or.inr ⟨y, Or.inl h, rfl⟩
  · exact Or.inl (Or.inr h)
  · exact Or.inr ⟨y, Or.inr h, rfl⟩
/-- options stand ahead -/
theorem ordD_under {A : List Nd} {a : Nd} {G : List Nd} (hA : Under A) (ha : A[A.length - 1]? = some a) (hG : Under G) : Under (ordD A a (G.drop 1)) := by
  intro k nd hk x hx
  have hl := get_lt ha
  rcases ordD_get hk with ⟨_, h⟩ | ⟨j, y, rfl, hj, rfl⟩
  · exact hA k nd h x hx
  · rw [List.getElem?_drop] at hj
    rcases ordN_mem hx with h | ⟨z, h, rfl⟩
    · have := hA _ a ha x h
      omega
    · have := hG _ y hj z h
      omega
/-- every node but the last is an option -/
theorem ordD_used {A : List Nd} {a : Nd} {G : List Nd} (hA : Used A) (ha : A[A.length - 1]? = some a) (hG : Used G) (h0 : G[0]? = some ([], [])) : Used (ordD A a (G.drop 1)) := by
  intro i hi
  have hl := get_lt ha
  have hg := get_lt h0
  rw [ordD_len, List.length_drop] at hi
  by_cases hlt : i + 1 < A.length
  · obtain ⟨k, nd, hk, hx⟩ := hA i hlt
    exact ⟨k, nd, by rw [ordD_left (get_lt hk)]; exact hk, hx⟩
  · obtain ⟨k, nd, hk, hx⟩ := hG (i - (A.length - 1)) (by omega)
    cases k with
    | zero =>
      rw [h0] at hk
      injection hk with hk
      subst hk
      rcases hx with hx | hx <;> cases hx
    | succ k =>
      refine ⟨A.length + k, ordN (A.length - 1) a nd, ordD_right (by rw [List.getElem?_drop, show 1 + k = k + 1 by omega]; exact hk), ?_⟩
      unfold ordN
      simp only [List.mem_append, List.mem_map]
      rcases hx with hx | hx
      · exact Or.inl (Or.inr ⟨_, hx, by omega⟩)
      · exact Or.inr (Or.inr ⟨_, hx, by omega⟩)

/-- a node that is in the book is found there -/
theorem seat_there {C : List Nd} (hC : Book C) {i : Nat} {nd : Nd} (h : C[i]? = some nd) : bookPut C nd = C ∧ seat C nd = i := by
  have hm : nd ∈ C := List.mem_of_getElem? h
  have e : bookPut C nd = C := by unfold bookPut; rw [if_pos hm]
  have hs := seat_get C nd
  rw [e] at hs
  exact ⟨e, (List.getElem?_inj (get_lt hs) hC.nodup).1 (hs.trans h.symm)⟩

theorem addF_pre (B f g : List Nd) : ∃ t, (addF B (f ++ g)).2 = (addF B f).2 ++ t := by
  induction g using snocInd with
  | nil => exact ⟨[], by simp⟩
  | snoc g nd ih =>
    obtain ⟨t, ht⟩ := ih
    rw [← List.append_assoc, addF_snoc]
    exact ⟨t ++ [_], by dsimp only; rw [ht, List.append_assoc]⟩

/-- the places of b's games above a -/
theorem ord_step (A : List Nd) (a nd : Nd) (B : List Nd) (ha : ∀ x, x ∈ a.1 ∨ x ∈ a.2 → x < A.length) (hl : (addF [] A).2.length = A.length) :
    movd (fun x => (addF [] (ordD A a B)).2.getD x 0) (ordN (A.length - 1) a nd) =
      (sortd (a.1.map (fun x => (addF [] A).2.getD x 0) ++ nd.1.map (fun x => ((addF [] (ordD A a B)).2.drop (A.length - 1)).getD x 0)),
       sortd (a.2.map (fun x => (addF [] A).2.getD x 0) ++ nd.2.map (fun x => ((addF [] (ordD A a B)).2.drop (A.length - 1)).getD x 0))) := by
  obtain ⟨t, ht⟩ := addF_pre [] A (B.map (ordN (A.length - 1) a))
  have ht2 : (addF [] (ordD A a B)).2 = (addF [] A).2 ++ t := ht
  rw [ht2]
  have h1 : ∀ x, x < A.length → ((addF [] A).2 ++ t).getD x 0 = (addF [] A).2.getD x 0 := fun x hx => by
    rw [List.getD_eq_getElem?_getD, List.getD_eq_getElem?_getD, List.getElem?_append_left (by omega)]
  have h2 : ∀ x, ((addF [] A).2 ++ t).getD (x + (A.length - 1)) 0 = (((addF [] A).2 ++ t).drop (A.length - 1)).getD x 0 := fun x => by
    rw [List.getD_eq_getElem?_getD, List.getD_eq_getElem?_getD, List.getElem?_drop, Nat.add_comm]
  have e1 : a.1.map (fun x => ((addF [] A).2 ++ t).getD x 0) = a.1.map (fun x => (addF [] A).2.getD x 0) := List.map_congr_left (fun x hx => h1 x (ha x (Or.inl hx)))
  have e2 : a.2.map (fun x => ((addF [] A).2 ++ t).getD x 0) = a.2.map (fun x => (addF [] A).2.getD x 0) := List.map_congr_left (fun x hx => h1 x (ha x (Or.inr hx)))
  unfold movd ordN
  simp only [List.map_append, List.map_map, Function.comp_def, e1, e2, h2]

/-- the ordinal sum of two forms, node by node -/
def ordP (f g : List Nz) : List Nd := ordD (f.map downN) (downN (f.getD (f.length - 1) ([], []))) ((g.map downN).drop 1)
def ordOk (f g : List Nz) : Bool := pairB f g && fitsN (formM (ordP f g))
def ordV (f g : List Nz) : List Nz := if pairB f g then outV (ordP f g) else []
theorem ordV_no {f g : List Nz} (h : pairB f g = false) : ordV f g = [] := by unfold ordV; rw [h]; rfl
theorem ordV_yes {f g : List Nz} (h : pairB f g = true) : ordV f g = outV (ordP f g) := by unfold ordV; rw [h]; rfl
theorem ordOk_no {f g : List Nz} (h : pairB f g = false) : ordOk f g = false := by unfold ordOk; rw [h]; rfl
theorem ordOk_yes {f g : List Nz} (h : pairB f g = true) : ordOk f g = fitsN (formM (ordP f g)) := by unfold ordOk; rw [h]; rfl
theorem ordV_sz (f g : List Nz) : ((ordV f g).map szN).sum ≤ 5760 := by
  unfold ordV
  split
  · exact outV_sz _
  · simp
end

section
set_option linter.unusedVariables false
set_option linter.unusedSimpArgs false
open Go.RowKit

/-- what stands there before the game number k of b -/
def osP (A : List Nd) (a : Nd) (G : List Nd) (k : Nat) : List Nd := ordD A a ((G.take k).drop 1)
/-- where the first k games of b stand -/
def osT (n k : Nat) : List Nat := (List.range k).map (· + n)

theorem osT_zero (n : Nat) : osT n 0 = [] := rfl
theorem osT_succ (n k : Nat) : osT n (k + 1) = osT n k ++ [k + n] := by unfold osT; rw [List.range_succ, List.map_append]; rfl
theorem osT_len (n k : Nat) : (osT n k).length = k := by simp [osT]
theorem osP_zero (A : List Nd) (a : Nd) (G : List Nd) : osP A a G 0 = A := by unfold osP; rw [List.take_zero, List.drop_nil]; exact ordD_nil A a
theorem osP_one (A : List Nd) (a nd : Nd) (G : List Nd) (h : G[0]? = some nd) : osP A a G 1 = A := by
  unfold osP
  rw [List.take_add_one, h]
  exact ordD_nil A a
theorem osP_succ (A : List Nd) (a nd : Nd) (G : List Nd) (k : Nat) (hk : 0 < k) (h : G[k]? = some nd) : osP A a G (k + 1) = osP A a G k ++ [ordN (A.length - 1) a nd] := by
  unfold osP
  have hl := get_lt h
  rw [List.take_add_one, h, Option.toList_some, List.drop_append_of_le_length (by rw [List.length_take]; omega)]
  exact ordD_snoc A a nd _
theorem osP_len (A : List Nd) (a : Nd) (G : List Nd) (k : Nat) (hk : k ≤ G.length) : (osP A a G k).length = A.length + (k - 1) := by
  unfold osP
  rw [ordD_len, List.length_drop, List.length_take]
  omega
theorem osP_all (A : List Nd) (a : Nd) (G : List Nd) : osP A a G G.length = ordD A a (G.drop 1) := by unfold osP; rw [List.take_length]

theorem osP_under {A : List Nd} {a : Nd} {G : List Nd} (hA : Under A) (ha : A[A.length - 1]? = some a) (hG : Under G) (k : Nat) : Under (osP A a G k) := by
  unfold osP
  exact ordD_under hA ha (under_take hG k)

theorem atT_getD (Q : List Nd) (T : List Nat) (x : Nat) (hx : x < T.length) : (atT Q T).getD x 0 = (addF [] Q).2.getD (T.getD x 0) 0 := by
  unfold atT
  obtain ⟨t, ht⟩ := lt_get hx
  rw [List.getD_eq_getElem?_getD, List.getElem?_map, ht, List.getD_eq_getElem?_getD (l := T), ht]
  rfl
theorem osT_get (n k x : Nat) (hx : x < k) : (osT n k).getD x 0 = x + n := by
  unfold osT
  rw [List.getD_eq_getElem?_getD, List.getElem?_map, List.getElem?_range hx]
  rfl
theorem range_getO (k x : Nat) (hx : x < k) : (List.range k).getD x 0 = x := by rw [List.getD_eq_getElem?_getD, List.getElem?_range hx]; rfl

/-- the places of the options of the game number k above a -/
theorem os_row (A : List Nd) (a nd : Nd) (Q : List Nd) (k : Nat) (hA : ∀ x, x ∈ a.1 ∨ x ∈ a.2 → x < A.length) (hn : ∀ x, x ∈ nd.1 ∨ x ∈ nd.2 → x < k) :
    a.1.map (fun x => (atT Q (List.range A.length)).getD x 0) ++ nd.1.map (fun x => (atT Q (osT (A.length - 1) k)).getD x 0) = (ordN (A.length - 1) a nd).1.map (fun x => (addF [] Q).2.getD x 0) ∧
    a.2.map (fun x => (atT Q (List.range A.length)).getD x 0) ++ nd.2.map (fun x => (atT Q (osT (A.length - 1) k)).getD x 0) = (ordN (A.length - 1) a nd).2.map (fun x => (addF [] Q).2.getD x 0) := by
  have h1 : ∀ x, x < A.length → (atT Q (List.range A.length)).getD x 0 = (addF [] Q).2.getD x 0 := fun x hx => by
    rw [atT_getD _ _ _ (by simpa using hx), range_getO _ _ hx]
  have h2 : ∀ x, x < k → (atT Q (osT (A.length - 1) k)).getD x 0 = (addF [] Q).2.getD (x + (A.length - 1)) 0 := fun x hx => by
    rw [atT_getD _ _ _ (by rw [osT_len]; exact hx), osT_get _ _ _ hx]
  unfold ordN
  simp only [List.map_append, List.map_map, Function.comp_def]
  exact ⟨by rw [List.map_congr_left (fun x hx => h1 x (hA x (Or.inl hx))), List.map_congr_left (fun x hx => h2 x (hn x (Or.inl hx)))], by rw [List.map_congr_left (fun x hx => h1 x (hA x (Or.inr hx))), List.map_congr_left (fun x hx => h2 x (hn x (Or.inr hx)))]⟩

/-- the book and the places behind the game number k -/
theorem os_step {A : List Nd} {a nd : Nd} {G : List Nd} (hA : Under A) (ha : A[A.length - 1]? = some a) (hG : Under G) (h0 : G[0]? = some ([], [])) (k : Nat) (hk : G[k]? = some nd) :
    (addF [] (osP A a G (k + 1))).1 = bookPut (addF [] (osP A a G k)).1 (movd (fun x => (addF [] (osP A a G k)).2.getD x 0) (ordN (A.length - 1) a nd)) ∧
    (addF [] (osP A a G (k + 1))).2.getD (k + (A.length - 1)) 0 = seat (addF [] (osP A a G k)).1 (movd (fun x => (addF [] (osP A a G k)).2.getD x 0) (ordN (A.length - 1) a nd)) ∧
    (∀ i, i < (osP A a G k).length → (addF [] (osP A a G (k + 1))).2.getD i 0 = (addF [] (osP A a G k)).2.getD i 0) := by
  have hl := get_lt ha
  cases k with
  | zero =>
    obtain rfl : nd = ([], []) := by rw [hk] at h0; injection h0
    rw [osP_one A a _ G h0, osP_zero]
    have hadd := addF_added [] book_nil A hA
    have e : ordN (A.length - 1) a ([], []) = a := by unfold ordN; simp
    obtain ⟨s1, s2⟩ := seat_there hadd.book (hadd.node _ a ha)
    rw [e]
    refine ⟨s1.symm, ?_, fun i _ => rfl⟩
    rw [s2, Nat.zero_add]
  | succ k =>
    rw [osP_succ A a nd G (k + 1) (by omega) hk, addF_snoc]
    have hlen := (addF_len [] (osP A a G (k + 1))).1
    have hpl := osP_len A a G (k + 1) (by have := get_lt hk; omega)
    refine ⟨rfl, ?_, fun i hi => ?_⟩
    · dsimp only
      rw [List.getD_eq_getElem?_getD, List.getElem?_append_right (by omega), show k + 1 + (A.length - 1) - (addF [] (osP A a G (k + 1))).2.length = 0 by omega]
      rfl
    · dsimp only
      rw [List.getD_eq_getElem?_getD, List.getElem?_append_left (by omega), ← List.getD_eq_getElem?_getD]

theorem atT_same {Q Q' : List Nd} {T : List Nat} (h : ∀ t ∈ T, (addF [] Q').2.getD t 0 = (addF [] Q).2.getD t 0) : atT Q' T = atT Q T := List.map_congr_left h

/-- the book with a in it, and a row that is empty yet -/
theorem MkS.ofAdd {base : Nat} {w : World} {A : List Nd} {gr cr : Nat} {vn vb : Value} {vs : List (Value × Value)} (hA : Under A) (hK : Bk base w base (addF [] A).1 (bornsOf (addF [] A).1) vn vb vs (fun g => g = gr))
    (ho : w.ownsRow base 3 1 (.slice (some ⟨gr, 0, none⟩) A.length cr) A.length ((addF [] A).2.map iv)) (hl : base < gr) (hf : ¬ Foot base vn vb gr) :
    MkS base (w.alloc (.cells #[] 3)) A [] (List.range A.length) w.heap.size 0 gr cr vn vb vs := by
  have hb : Below w.heap.size w (w.alloc (.cells #[] 3)) := (Below.refl _ _).alloc (Nat.le_refl _) _
  have hg := (World.ownsRow.lt ho gr rfl).2
  have hr := World.ownsRow_lit (base := base) (e := 3) (size := 1) w #[] 0 (by omega) (by unfold maxLen; omega) rfl
  have e : atT A (List.range A.length) = (addF [] A).2 := by
    have h1 := (addF_len [] A).1
    unfold atT
    rw [← h1]
    apply List.ext_getElem?
    intro i
    rw [List.getElem?_map]
    by_cases hi : i < (addF [] A).2.length
    · rw [List.getElem?_range hi, Option.map_some, List.getD_eq_getElem?_getD, List.getElem?_eq_getElem hi]
      rfl
    · rw [List.getElem?_eq_none (l := List.range _) (by rw [List.length_range]; omega), List.getElem?_eq_none (l := (addF [] A).2) (by omega)]
      rfl
  refine ⟨?_, hr, ?_, by omega, hl, by omega, fun hF => by have := (hK.lt _ hF).2; omega, hf, fun t ht => by simp at ht, fun t ht => by simpa using ht, hA⟩
  · exact (hK.reX (Y := fun g => g = w.heap.size ∨ g = gr) (fun g hg' e => e.resolve_left (by omega))).below hb
  · rw [List.length_range, e]
    exact World.ownsRow.alloc ho _

/-- a node was put, and its place is told -/
theorem MkS.nextP {base : Nat} {wr W w6 w7 : World} {Q Q' : List Nd} {TL TR : List Nat} {gl cl gr cr : Nat} {vn vb vn' vb' v7 : Value} {vs vs' : List (Value × Value)} {t u : Nat} (h : MkS base wr Q TL TR gl cl gr cr vn vb vs) (hU : Under Q') (hle : Q.length ≤ Q'.length) (ht : t < Q'.length) (hsm : ∀ i, i < Q.length → (addF [] Q').2.getD i 0 = (addF [] Q).2.getD i 0) (hu : (addF [] Q').2.getD t 0 = u) (hW : Below wr.heap.size wr W)
    (hK6 : Bk base w6 base (addF [] Q').1 (bornsOf (addF [] Q').1) vn' vb' vs' (fun g => g = gl ∨ g = gr)) (ho6 : Only W w6 (Foot base vn vb)) (hf6 : ∀ g, g < W.heap.size → Foot base vn' vb' g → Foot base vn vb g)
    (hown7 : w7.ownsRow base 3 1 v7 (TL.length + 1) ((atT Q TL).map iv ++ [iv u])) (hgrow7 : (w6.alloc (.cells #[.int .i64 ((u : Nat) : Int)] 3)).grownBy w7 (Value.slice (some ⟨gl, 0, none⟩) TL.length cl).ownBlock)
    (hat7 : v7.ownBlock = (Value.slice (some ⟨gl, 0, none⟩) TL.length cl).ownBlock ∨ v7.ownBlock = some (w6.alloc (.cells #[.int .i64 ((u : Nat) : Int)] 3)).heap.size) :
    ∃ g7 c7, v7 = .slice (some ⟨g7, 0, none⟩) (TL.length + 1) c7 ∧ Hid (MkS base w7 Q' (TL ++ [t]) TR g7 c7 gr cr vn' vb' vs') ∧ Hid (Below base wr w7) ∧ Hid (Only wr w7 (fun g => Foot base vn vb g ∨ g = gl)) ∧ (g7 = gl ∨ w6.heap.size < g7) := by
  obtain ⟨g7, c7, rfl, _, hg7h⟩ := hown7.form (by omega)
  have hs := h.size
  have hll := h.ll
  have hlr := h.lr
  have hne := h.ne
  have HAPP : Only (w6.alloc (.cells #[.int .i64 ((u : Nat) : Int)] 3)) w7 (fun g => g = gl) := Only.of_grown hgrow7 (fun g e => by injection e with e; exact e.symm)
  have hal : Below w6.heap.size w6 (w6.alloc (.cells #[.int .i64 ((u : Nat) : Int)] 3)) := (Below.refl _ _).alloc (Nat.le_refl _) _
  have HK7a := hK6.below hal
  have hz6 : (w6.alloc (.cells #[.int .i64 ((u : Nat) : Int)] 3)).heap.size = w6.heap.size + 1 := by simp
  have hz5 := hW.size
  have hs6 := ho6.size
  have hglF : ¬ Foot base vn' vb' gl := fun hF => h.fl (hf6 gl (by omega) hF)
  have hgrF : ¬ Foot base vn' vb' gr := fun hF => h.fr (hf6 gr (by omega) hF)
  have hat : g7 = gl ∨ g7 = w6.heap.size + 1 := by
    rcases hat7 with e | e
    · left; injection e
    · right; rw [hz6] at e; injection e
  have HK7b := (HK7a.reX (Y := fun g => (g = gl ∨ g = w6.heap.size + 1) ∨ g = gr) (fun g hg e => by
    rcases e with (e | e) | e
    · exact Or.inl e
    · rw [hz6] at hg; omega
    · exact Or.inr e)).only (HAPP.mono (fun i _ e => Or.inl (Or.inl e))) (fun g hF e => by
    rcases e with (e | e) | e
    · exact hglF (e ▸ hF)
    · have := (HK7a.lt g hF).2; rw [hz6] at this; omega
    · exact hgrF (e ▸ hF))
  have HK7 : Bk base w7 base (addF [] Q').1 (bornsOf (addF [] Q').1) vn' vb' vs' (fun g => g = g7 ∨ g = gr) := HK7b.reX (fun g _ e => e.imp (fun e => by subst e; exact hat) id)
  have HNF7 : ¬ Foot base vn' vb' g7 := fun hF => by
    rcases hat with e | e
    · exact hglF (e ▸ hF)
    · have := (HK7a.lt g7 hF).2; rw [hz6] at this; omega
  have O6 : Only wr (w6.alloc (.cells #[.int .i64 ((u : Nat) : Int)] 3)) (Foot base vn vb) := ((Only.of_below (F := Foot base vn vb) hW).trans ho6 (fun i _ h => h)).trans (Only.of_below (F := Foot base vn vb) hal) (fun i _ h => h)
  have OT : Only wr w7 (fun g => Foot base vn vb g ∨ g = gl) := (O6.mono (fun i _ h => Or.inl h)).trans HAPP (fun i _ h => Or.inr h)
  have hR : w7.ownsRow base 3 1 (.slice (some ⟨gr, 0, none⟩) TR.length cr) TR.length ((atT Q TR).map iv) := own_only h.or_ OT (fun g e1 e2 => by
    injection e1 with e1
    subst e1
    rcases e2 with e2 | e2
    · exact h.fr e2
    · exact hne e2.symm)
  refine ⟨g7, c7, rfl, Lib.hid ⟨HK7, ?_, ?_, by omega, hlr, by omega, HNF7, hgrF, ?_, fun t' ht' => Nat.lt_of_lt_of_le (h.tr t' ht') hle, hU⟩, Lib.hid (OT.below (by omega) (fun g hg => by
    rcases hg with hg | hg
    · exact (h.bk.lt g hg).1
    · omega)), Lib.hid OT, by omega⟩
  · have e : atT Q' (TL ++ [t]) = atT Q TL ++ [u] := by
      rw [← atT_same (Q := Q) (Q' := Q') (T := TL) (fun t' ht' => hsm t' (h.tl t' ht'))]
      unfold atT
      rw [List.map_append, List.map_singleton, hu]
    rw [e, List.map_append, List.length_append]
    exact hown7
  · rw [atT_same (fun t' ht' => hsm t' (h.tr t' ht'))]
    exact hR
  · intro t' ht'
    rw [List.mem_append, List.mem_singleton] at ht'
    rcases ht' with ht' | ht'
    · have := h.tl t' ht'; omega
    · omega
end

section
set_option linter.unusedVariables false
set_option linter.unusedSimpArgs false
open Go.RowKit

set_option maxRecDepth 100000 in
set_option maxHeartbeats 8000000 in
theorem add_callsR (X : Nat → Prop) (base B : Nat) (ns : List Nd) (vn0 vb0 : Value) (vs0 : List (Value × Value)) (vf : Value) (f : List Nd) (w : World) (lo hi : Nat) (hh : hi ≤ base)
    (hX : ∀ g, X g → g < w.heap.size) (hFX : ∀ g, Foot B vn0 vb0 g → ¬ X g) (h : Bk base w B ns (bornsOf ns) vn0 vb0 vs0 X) (hbk : Book ns) (hv : NodesZ w lo hi vf (f.map upN)) (hf : Under f) (hn : ns.length + f.length ≤ 90000) (hl : ∀ nd ∈ f, nd.1.length ≤ 90000 ∧ nd.2.length ≤ 90000) :
    Calls Try.prog 63 #[.pointer (some ⟨B, 0, none⟩), .agg #[vf]] w fun e w' => ∃ g c vn vb vs, e = .returned (.slice (some ⟨g, 0, none⟩) f.length c) ∧ w'.ownsRow base 3 1 (.slice (some ⟨g, 0, none⟩) f.length c) f.length ((addF ns f).2.map iv) ∧ w.heap.size < g ∧ ¬ Foot B vn vb g ∧
      Bk base w' B (addF ns f).1 (bornsOf (addF ns f).1) vn vb vs (fun q => q = g ∨ X q) ∧ Only w w' (Foot B vn0 vb0) ∧ ∀ x, x < w.heap.size → Foot B vn vb x → Foot B vn0 vb0 x := by
  have HK0 := Lib.hid h
  have HV := Lib.hid hv
  have HF := Lib.hid hf
  have HL := Lib.hid hl
  have HAD := Lib.hid fun k => addF_added ns hbk (f.take k) (under_take hf k)
  have HFL := Lib.hid h.lt
  have HXX := Lib.hid hX
  have HFX := Lib.hid hFX
  have hbase : base ≤ w.heap.size := by have := h.lt B (Or.inl rfl); omega
  obtain ⟨aof, cof, rfl, _, _⟩ := hv
  rw [List.length_map] at HV ⊢
  clear hl hf hbk h hX hFX
  have HB0 : Hid (Below w.heap.size w ((w.alloc (.cells #[.slice aof f.length cof] 28)).alloc (.cells #[] 3))) := Lib.hid (((Below.refl _ _).alloc (Nat.le_refl _) _).alloc (by simp) _)
  have HO0 : Hid (((w.alloc (.cells #[.slice aof f.length cof] 28)).alloc (.cells #[] 3)).ownsRow base 3 1 (.slice (some ⟨w.heap.size + 1, 0, none⟩) 0 0) 0 []) := Lib.hid (by
    have h := World.ownsRow_lit (base := base) (e := 3) (size := 1) (w.alloc (.cells #[.slice aof f.length cof] 28)) #[] 0 (by simp; omega) (by unfold maxLen; omega) rfl
    rw [show (w.alloc (.cells #[.slice aof f.length cof] 28)).heap.size = w.heap.size + 1 from by simp] at h
    exact h)
  go_enter Try.func63, Try.ntmps63
  go_wp2
  go_loopw [5, 6] (fun q i wr => ∃ (k ga ca : Nat) (vn vb : Value) (vs : List (Value × Value)), k ≤ f.length ∧ i = .int .i64 k ∧ q = .slice (some ⟨ga, 0, none⟩) k ca ∧ Hid (Bk base wr B (addF ns (f.take k)).1 (bornsOf (addF ns (f.take k)).1) vn vb vs (fun g => g = ga ∨ X g)) ∧
      Hid (wr.ownsRow base 3 1 (.slice (some ⟨ga, 0, none⟩) k ca) k ((addF ns (f.take k)).2.map iv)) ∧ w.heap.size < ga ∧ Hid (¬ Foot B vn vb ga) ∧ Hid (∀ g, g < w.heap.size + 1 → Foot B vn vb g → Foot B vn0 vb0 g) ∧ Hid (Only w wr (Foot B vn0 vb0)) ∧ wr.cell? ⟨w.heap.size, 0, none⟩ = some (.slice aof f.length cof)) (fun _ i _ => f.length - (intOf i).toNat)
  case atStart =>
    refine ⟨0, w.heap.size + 1, 0, vn0, vb0, vs0, Nat.zero_le _, rfl, rfl, Lib.hid ?_, Lib.hid ?_, by omega, Lib.hid (fun hF => by have := (HFL.out _ hF).2; omega), Lib.hid (fun _ _ hF => hF), Lib.hid (Only.of_below HB0.out), by go_simp⟩
    · have h1 : Bk base w B ns (bornsOf ns) vn0 vb0 vs0 (fun g => g = w.heap.size + 1 ∨ X g) := HK0.out.reX (fun g hg e => e.resolve_left (by omega))
      simpa [addF] using h1.below HB0.out
    · simpa [addF] using HO0.out
  case round =>
    obtain ⟨k, ga, ca, vn, vb, vs, hk, rfl, rfl, hK, hown, hga, hnf, hft, ho, hbox⟩ := hrel
    by_cases hlt : k < f.length
    · obtain ⟨nd, hx⟩ := lt_get hlt
      have hadd := addF_take ns f k nd hx
      have had := HAD.out k
      have hlen := addF_len ns (f.take k)
      obtain ⟨ao1, c1, e1, _, hnn⟩ := (HV.out.below (ho.out.below hbase (fun g hg => (HFL.out g hg).1)) hh)
      obtain ⟨b, off, v1, v2, hao, _, hbhi, p1, p2, i1, i2⟩ := hnn k (upN nd) (by rw [List.getElem?_map, hx]; rfl)
      obtain ⟨q1, q2, q3⟩ := slice_inj e1
      rw [hao] at q1
      subst q1
      clear q2 q3 e1 hnn
      obtain ⟨hAl, hAI⟩ := own_intsA hown.out (by omega)
      have hnd := HL.out nd (List.mem_of_getElem? hx)
      have hux := HF.out k nd hx
      have hgaw : ga < wr.heap.size := (World.ownsRow.lt hown.out _ rfl).2
      have hos := ho.out.size
      generalize hC : (addF ns (f.take k)).1 = C at hK had hlen hadd
      generalize hA : (addF ns (f.take k)).2 = A at hown had hlen hadd hAl hAI
      have hAC : ∀ x, x < k → A.getD x 0 < C.length := fun x hxk => by
        obtain ⟨n0, hn0⟩ := lt_get (l := f.take k) (i := x) (by simp; omega)
        exact get_lt (had.node x n0 hn0)
      have hCu := had.book.struct.under
      have hCl : C.length ≤ 90000 := by have := hlen.2; simp at this; omega
      have hwr : base ≤ wr.heap.size := by omega
      have C1 := Lib.hid fun (W : World) (hW : Below wr.heap.size wr W) => l3At_calls (.slice (some ⟨ga, 0, none⟩) k ca) v1 A nd.1 W ga (ga + 1) lo hi (by have := hW.size; omega) (by have := hW.size; omega) (hAI.below hW (by omega)) (i1.below hW (by omega)) (by omega) (fun x hx => by rw [hAl]; exact hux x (Or.inl hx))
      have C2 := Lib.hid fun (W : World) (hW : Below wr.heap.size wr W) => l3At_calls (.slice (some ⟨ga, 0, none⟩) k ca) v2 A nd.2 W ga (ga + 1) lo hi (by have := hW.size; omega) (by have := hW.size; omega) (hAI.below hW (by omega)) (i2.below hW (by omega)) (by omega) (fun x hx => by rw [hAl]; exact hux x (Or.inr hx))
      have C3 := Lib.hid fun (W : World) (hW : Below wr.heap.size wr W) (vl vr : Value) (l1 h1 l2 h2 : Nat) (hh1 : h1 ≤ W.heap.size) (hh2 : h2 ≤ W.heap.size) (hvl : IntsZ W l1 h1 vl (upL (nd.1.map (fun x => A.getD x 0)))) (hvr : IntsZ W l2 h2 vr (upL (nd.2.map (fun x => A.getD x 0)))) =>
        put_calls base B C vn vb vs (fun g => g = ga ∨ X g) vl vr (nd.1.map (fun x => A.getD x 0)) (nd.2.map (fun x => A.getD x 0)) W l1 h1 l2 h2 hh1 hh2 (hK.out.below hW) (fun g e => by have := hW.size; rcases e with e | e <;> first | omega | (have := HXX.out g e; omega)) hCu hvl hvr
          (fun y hy => by obtain ⟨x, hx, rfl⟩ := List.mem_map.1 hy; exact hAC x (hux x (Or.inl hx))) (fun y hy => by obtain ⟨x, hx, rfl⟩ := List.mem_map.1 hy; exact hAC x (hux x (Or.inr hx))) (by omega) (by simp; omega) (by simp; omega)
      generalize seat C (sortd (nd.1.map (fun x => A.getD x 0)), sortd (nd.2.map (fun x => A.getD x 0))) = su at C3 hadd
      generalize bookPut C (sortd (nd.1.map (fun x => A.getD x 0)), sortd (nd.2.map (fun x => A.getD x 0))) = Cp at C3 hadd
      have HOW := Lib.hid fun (W : World) (hW : Below wr.heap.size wr W) => own_only hown.out (Only.of_below (F := fun _ => False) hW) (fun _ _ => id)
      have HFK := Lib.hid hK.out.lt
      have HADD := Lib.hid hadd
      have hS0 : AddS w.heap.size b (off + k * 2) (.slice (some ⟨b, off, none⟩) f.length cof) v1 v2 wr.drew := ⟨hbox, p1, p2⟩
      have HBX := Lib.hid hbox
      have nb0 : Hid (¬ Foot B vn vb w.heap.size) := Lib.hid (fun hF => by have := hft.out _ (by omega) hF; have := (HFL.out _ this).2; omega)
      have nb1 : Hid (¬ Foot B vn vb b) := Lib.hid (fun hF => by have := (HFK.out _ hF).1; omega)
      have hbd : Hid (Below wr.heap.size wr wr.drew) := Lib.hid (below_drewN (Below.refl _ _) 1)
      clear hAI i1 i2 hadd had hlen p1 p2 hAC
      have b0 : (0 : Int) ≤ k := by omega
      have b1 : (k : Int) < f.length := by omega
      go_wp2
      go_region_held3 (fun w' : World => w'.cell? ⟨w.heap.size, 0, none⟩ = some (.slice (some ⟨b, off, none⟩) f.length cof) ∧ w'.cell? ⟨b, off + k * 2, none⟩ = some v1 ∧ w'.cell? ⟨b, off + k * 2 + 1, none⟩ = some v2) (first | exact hS0 | (go_split_ands; exact ⟨‹_›, ‹_›, ‹_›⟩) | (go_split_ands; exact addS_only HAPP.out (by omega) (by omega) ⟨‹_›, ‹_›, ‹_›⟩) | (go_split_ands; exact addS_below ((Below.refl _ _).alloc (Nat.le_refl _) _) ⟨‹_›, ‹_›, ‹_›⟩) | (go_split_ands; exact addS_only ho6 nb0.out nb1.out ⟨‹_›, ‹_›, ‹_›⟩) | (go_split_ands; exact addS_below hb5 ⟨‹_›, ‹_›, ‹_›⟩) | (go_split_ands; exact addS_below hb4 ⟨‹_›, ‹_›, ‹_›⟩)) (first | (go_at_call 65; (with_reducible refine (C3.out w5 HB5 _ _ _ _ _ _ (Nat.le_refl _) (Nat.le_refl _) (hi1.below hb5 (Nat.le_refl _) |>.wide (Nat.le_refl _) hb5.size) hi2).mono ?_); rintro e w6 ⟨rfl, vn', vb', vs', hK6, ho6, hf6⟩) | (go_at_call 64; (with_reducible refine (C1.out _ hbd.out).mono ?_); rintro e w4 ⟨g1, c1, rfl, hi1, hg1, hg1', hb4⟩; have HB4 : Below wr.heap.size wr w4 := Below.trans hbd.out hb4) | (go_at_call 64; (with_reducible refine (C2.out w4 HB4).mono ?_); rintro e w5 ⟨g2, c2, rfl, hi2, hg2, hg2', hb5⟩; have HB5 : Below wr.heap.size wr w5 := HB4.trans (hb5.mono HB4.size); have HO6 := HOW.out w5 HB5) | (refine step_app_at rfl _ _ rfl (World.ownsRow.alloc (own_only HO6 ho6 (fun g e => by injection e with e; subst e; exact hnf.out)) _) rfl (B := w6.heap.size) (u := su) (by go_simp) rfl (by omega) (by simp; have := ho6.size; have := HB5.size; omega) ?_; intro v7 w7 hown7 hgrow7 hat7; have HAPP : Hid (Only _ w7 (fun g => g = ga)) := Lib.hid (Only.of_grown hgrow7 (fun g e => by injection e with e; exact e.symm))))
      all_goals
        obtain ⟨g7, c7, rfl, _, hg7h⟩ := hown7.form (by omega)
        have HK7a := hK6.below ((Below.refl w6.heap.size w6).alloc (Nat.le_refl _) (.cells #[.int .i64 (su : Int)] 3))
        have hz6 : (w6.alloc (.cells #[.int .i64 (su : Int)] 3)).heap.size = w6.heap.size + 1 := by simp
        have hz5 := HB5.size
        have hs6 := ho6.size
        have hgaF : ¬ Foot B vn' vb' ga := fun hF => hnf.out (hf6 ga (by omega) hF)
        have hat : g7 = ga ∨ g7 = w6.heap.size + 1 := by
          rcases hat7 with e | e
          · left; injection e
          · right; rw [hz6] at e; injection e
        have HFX7 : ∀ g, Foot B vn' vb' g → ¬ X g := fun g hF hx => by
          have h1 := HXX.out g hx
          exact HFX.out g (hft.out g (by omega) (hf6 g (by omega) hF)) hx
        have HK7b := (HK7a.reX (Y := fun g => (g = ga ∨ g = w6.heap.size + 1) ∨ X g) (fun g hg e => by
          rcases e with (e | e) | e
          · exact Or.inl e
          · rw [hz6] at hg; omega
          · exact Or.inr e)).only (HAPP.out.mono (fun i _ e => Or.inl (Or.inl e))) (fun g hF e => by
          rcases e with (e | e) | e
          · exact hgaF (e ▸ hF)
          · have := (HK7a.lt g hF).2; rw [hz6] at this; omega
          · exact HFX7 g hF e)
        have HK7 : Hid (Bk base w7 B Cp (bornsOf Cp) vn' vb' vs' (fun g => g = g7 ∨ X g)) := Lib.hid (HK7b.reX (fun g _ e => e.imp (fun e => by subst e; exact hat) id))
        have HNF7 : Hid (¬ Foot B vn' vb' g7) := Lib.hid (fun hF => by
          rcases hat with e | e
          · exact hgaF (e ▸ hF)
          · have := (HK7a.lt g7 hF).2; rw [hz6] at this; omega)
        have OT : Only wr w7 (fun g => Foot B vn vb g ∨ g = ga) :=
          (((Only.of_below (F := fun g => Foot B vn vb g ∨ g = ga) HB5).trans ho6 (fun i _ h => Or.inl h)).trans (Only.of_below (F := fun g => Foot B vn vb g ∨ g = ga) ((Below.refl w6.heap.size w6).alloc (Nat.le_refl _) (.cells #[.int .i64 (su : Int)] 3))) (fun i _ h => h)).trans HAPP.out (fun i _ h => Or.inr h)
        have HO7 : Hid (Only w w7 (Foot B vn0 vb0)) := Lib.hid (ho.out.trans OT (fun i hi h => by
          rcases h with h | h
          · exact hft.out i (by omega) h
          · omega))
        have HFT7 : Hid (∀ g, g < w.heap.size + 1 → Foot B vn' vb' g → Foot B vn0 vb0 g) := Lib.hid (fun g hg hF => hft.out g hg (hf6 g (by omega) hF))
        have HBX7 : Hid (w7.cell? ⟨w.heap.size, 0, none⟩ = some (.slice (some ⟨b, off, none⟩) f.length cof)) := Lib.hid ((OT.cell (block_of_cell HBX.out) (fun h => by
          rcases h with h | h
          · exact nb0.out h
          · omega)).trans HBX.out)
        have HOWN : Hid (w7.ownsRow base 3 1 (.slice (some ⟨g7, 0, none⟩) (k + 1) c7) (k + 1) ((A ++ [su]).map iv)) := Lib.hid (by rw [List.map_append]; exact hown7)
        have hg7 : w.heap.size < g7 := by omega
        clear hown7 hgrow7 hat7 HAPP OT HK7a HK7b hz6 hK6 ho6 hf6 hat hgaF HFX7
        go_wp2
        go_roundw
        case rel => exact ⟨k + 1, g7, c7, vn', vb', vs', by omega, by go_num, rfl, by rw [HADD.out]; exact HK7, by rw [HADD.out]; exact HOWN, hg7, HNF7, HFT7, HO7, HBX7.out⟩
        case measure => simp [intOf]; omega
    · have hke : f.take k = f := List.take_of_length_le (by omega)
      have hkl : k = f.length := by omega
      subst hkl
      rw [hke] at hK hown
      obtain ⟨_, hAI⟩ := own_intsA hown.out (by omega)
      have hgaw : ga < wr.heap.size := (World.ownsRow.lt hown.out _ rfl).2
      have HI := Lib.hid (hAI.wide (lo' := w.heap.size) (hi' := wr.heap.size) (by omega) (by omega))
      have HKE := Lib.hid hK.out
      have HOE := Lib.hid hown.out
      have HFE : Hid (∀ x, x < w.heap.size → Foot B vn vb x → Foot B vn0 vb0 x) := Lib.hid (fun x hx => hft.out x (by omega))
      clear hAI hK hown hke
      go_wp2
      go_ret
      exact ⟨ga, ca, vn, vb, vs, rfl, HOE.out, hga, hnf.out, HKE.out, ho.out, HFE.out⟩
end

section
set_option linter.unusedVariables false
set_option linter.unusedSimpArgs false
open Go.RowKit

set_option maxHeartbeats 2000000 in
theorem l3At_own (va v : Value) (A L : List Nat) (w : World) (lo hi lo' hi' : Nat) (hh : hi ≤ w.heap.size) (hh' : hi' ≤ w.heap.size) (ha : IntsZ w lo hi va (upL A)) (hv : IntsZ w lo' hi' v (upL L)) (hl : L.length ≤ 1000000) (hx : ∀ x ∈ L, x < A.length) :
    Calls Try.prog 64 #[va, v] w fun e w' => ∃ b c, e = .returned (.slice (some ⟨b, 0, none⟩) L.length c) ∧ OwnI w' w.heap.size (.slice (some ⟨b, 0, none⟩) L.length c) (upL (L.map (fun x => A.getD x 0))) ∧ w.heap.size ≤ b ∧ b < w'.heap.size ∧ Below w.heap.size w w' := by
  obtain ⟨i0, hi0, hz0, hz1, hz2⟩ := info_parts infoIntA
  have HA := Lib.hid ha
  have HV := Lib.hid hv
  have HX := Lib.hid hx
  have hLL : (upL L).length = L.length := by unfold upL; simp
  have hLA : (upL A).length = A.length := by unfold upL; simp
  obtain ⟨aa, ca, rfl, hca, _⟩ := ha
  obtain ⟨ao, c, rfl, _, _⟩ := hv
  rw [hLA] at HA hca
  rw [hLA, hLL]
  rw [hLL] at HV
  clear hLL hLA hx
  have HO0 : Hid ((w.alloc (.cells #[] 3)).ownsRow w.heap.size 3 1 (.slice (some ⟨w.heap.size, 0, none⟩) 0 0) 0 []) := Lib.hid (World.ownsRow_lit w #[] 0 (Nat.le_refl _) (by unfold maxLen; omega) rfl)
  go_enter Try.func64, Try.ntmps64
  go_wp2
  go_loopw [5, 6] (fun q i wr => ∃ k : Nat, k ≤ L.length ∧ i = .int .i64 k ∧ (∃ b c, q = .slice (some ⟨b, 0, none⟩) k c) ∧ Hid (wr.ownsRow w.heap.size 3 1 q k (atV A L k)) ∧ Hid (Below w.heap.size w wr)) (fun _ i _ => L.length - (intOf i).toNat)
  case atStart => exact ⟨0, Nat.zero_le _, rfl, ⟨_, _, rfl⟩, Lib.hid (by rw [atV_zero]; exact HO0.out), Lib.hid ((Below.refl _ _).alloc (Nat.le_refl _) _)⟩
  case round =>
    obtain ⟨k, hk, rfl, ⟨b, cq, rfl⟩, hown, hb⟩ := hrel
    by_cases hlt : k < L.length
    · obtain ⟨x, hx⟩ := lt_get hlt
      have hxa := HX.out x (List.mem_of_getElem? hx)
      obtain ⟨ao', c', e', _, hn⟩ := HV.out.below hb.out hh'
      obtain ⟨bb, oo, rfl, _, _, hc⟩ := hn k (x : Int) (by unfold upL; rw [List.getElem?_map, hx]; rfl)
      injection e' with e1 e2 e3
      obtain rfl := e1
      clear hn e2 e3
      obtain ⟨ya, hya⟩ := lt_get hxa
      obtain ⟨aa', ca', e', _, hn⟩ := HA.out.below hb.out hh
      obtain ⟨ba, oa, rfl, _, _, hc2⟩ := hn x (ya : Int) (by unfold upL; rw [List.getElem?_map, hya]; rfl)
      injection e' with e1 e2 e3
      obtain rfl := e1
      clear hn e2 e3
      have HM : Hid (atV A L (k + 1) = atV A L k ++ [.int .i64 (ya : Int)]) := Lib.hid (atV_succ A L k x ya hx hya)
      have hbz := hb.out.size
      clear hx hya
      have b0 : (0 : Int) ≤ k := by omega
      have b1 : (k : Int) < L.length := by omega
      have x0 : (0 : Int) ≤ x := by omega
      have x1 : (x : Int) < A.length := by omega
      go_wp2_with (at_builtin; refine wpList_append_own _ rfl _ _ 41 rfl w.heap.size 3 i0 (.int .i64 0) 1 8 Try.underlying41 hi0 hz0 hz1 hz2 rfl (by decide) _ _ _ rfl (hown.out.alloc _) ⟨wr.heap.size, 0, none⟩ 1 1 [.int .i64 (ya : Int)] rfl rfl ?d1 ?d2 ?d3 ?d4 ?d5 ?_)
      case d1 =>
        intro j u hj
        match j, hj with
        | 0, hj => simp at hj; subst hj; simp [Addr.add]
      case d2 => intro u hu; simp at hu; subst hu; rfl
      case d3 => unfold maxLen; omega
      case d4 => omega
      case d5 => simp; omega
      intro v2 w2 hown2 hgrow2 hnil
      obtain ⟨g2, c2, rfl, _, _⟩ := hown2.form (by omega)
      have R1 : Hid (w2.ownsRow w.heap.size 3 1 (.slice (some ⟨g2, 0, none⟩) (k + 1) c2) (k + 1) (atV A L (k + 1))) := Lib.hid (by rw [HM.out]; exact hown2)
      have R2 : Hid (Below w.heap.size w w2) := Lib.hid ((hb.out.alloc hbz _).grown hgrow2 (by simp; omega) (fun q hq => (World.ownsRow.lt hown.out q hq).1))
      clear hown2 hgrow2 hnil hown HM hc hc2
      go_wp2
      go_roundw
      case rel => exact ⟨k + 1, by omega, by go_num, ⟨_, _, rfl⟩, R1, R2⟩
      case measure => simp [intOf]; omega
    · have hke : k = L.length := by omega
      subst hke
      rw [atV_all] at hown
      have hlt := World.ownsRow.lt hown.out _ rfl
      have HI : Hid (OwnI wr w.heap.size (.slice (some ⟨b, 0, none⟩) L.length cq) (upL (L.map (fun x => A.getD x 0)))) := Lib.hid (by
        have hlen : (upL (L.map (fun x => A.getD x 0))).length = L.length := by unfold upL; simp
        unfold OwnI
        rw [hlen]
        exact hown.out)
      have HL1 := hlt.1
      have HL2 := hlt.2
      clear hown hlt
      go_wp2
      go_ret
      exact ⟨b, cq, rfl, HI.out, HL1, HL2, hb.out⟩
end

section
open Go.RowKit
set_option linter.unusedVariables false
set_option linter.unusedSimpArgs false

theorem add_addrC (b off j : Nat) : (⟨b, off, none⟩ : Addr).add j = ⟨b, off + j, none⟩ := by unfold Addr.add; split <;> simp_all

theorem run_append_nilC {P : Program} {w : World} (base : Nat) (t ty e : TypeId) (i : TypeInfo) (size : Nat) (ht : P.underlying t = some (.slice e)) (hi : P.info? e = some i)
    (v : Value) (n : Nat) (xs : List Value) (hown : w.ownsRow base e size v n xs) (c : Nat) :
    (Builtin.append_ #[t, t] ty #[v, .slice none 0 c]).run P w = .ok v w := by
  rcases hown.2 with ⟨rfl, rfl⟩ | ⟨g, cap, cur, rfl, _, _, hnc, _⟩
  · simp [Builtin.append_, run_underlying ht, sizeOf, typeInfo, hi, Builtin.lenOf, Builtin.firstCells]
  · simp [Builtin.append_, run_underlying ht, sizeOf, typeInfo, hi, Builtin.lenOf, Builtin.firstCells, hnc, storeCells]

set_option maxRecDepth 100000 in
/-- a list of numbers is appended -/
theorem run_append_ints (w : World) (base : Nat) (ty : TypeId) (v : Value) (n : Nat) (xs : List Value) (hown : w.ownsRow base 3 1 v n xs) (vs : Value) (l : List Int) (lo hi : Nat) (hz : IntsZ w lo hi vs l) (hsmall : n + l.length ≤ 3000000) (hbase : base ≤ w.heap.size) :
    ∃ v' w', (Builtin.append_ #[41, 41] ty #[v, vs]).run Try.prog w = .ok v' w' ∧ w'.ownsRow base 3 1 v' (n + l.length) (xs ++ l.map (Value.int .i64)) ∧ w.grownBy w' v.ownBlock ∧ (v'.ownBlock = v.ownBlock ∨ v'.ownBlock = some w.heap.size) := by
  obtain ⟨i0, hi0, hz0, hz1, hz2⟩ := info_parts infoIntA
  obtain ⟨ao, c, rfl, hc, hcell⟩ := hz
  cases ao with
  | none =>
    obtain rfl : l = [] := by
      cases l with
      | nil => rfl
      | cons x l =>
        obtain ⟨b, off, e, _⟩ := hcell 0 x rfl
        cases e
    refine ⟨v, w, run_append_nilC base 41 ty 3 i0 1 Try.underlying41 hi0 v n xs hown c, by simpa using hown, ⟨rfl, rfl, rfl, Nat.le_refl _, fun k _ hk => rfl⟩, Or.inl rfl⟩
  | some ad =>
    obtain ⟨v', w', hr, h2, h3, _, h5⟩ := run_append_own_at (P := Try.prog) w base 41 ty 3 i0 (.int .i64 0) 1 8 Try.underlying41 hi0 hz0 hz1 hz2 rfl (by decide) v n xs hown ad l.length c (l.map (Value.int .i64)) (by simp) (fun j u hj => by
      rw [List.getElem?_map] at hj
      cases hx : l[j]? with
      | none => rw [hx] at hj; cases hj
      | some x =>
        rw [hx] at hj
        simp only [Option.map_some, Option.some.injEq] at hj
        subst hj
        obtain ⟨b, off, e, _, _, hcx⟩ := hcell j x hx
        injection e with e
        subst e
        rw [add_addrC]
        exact hcx) (fun u hu => by obtain ⟨x, _, rfl⟩ := List.mem_map.1 hu; rfl) (by unfold maxLen; omega) (by omega) hbase
    exact ⟨v', w', hr, h2, h3, h5⟩

theorem wpList_append_ints {ops : Array Oper} {rest : List Oper} {o : Oper} {a : Act} {Q : Exit → Act → World → Prop} {w : World} (hgd : o.guard = none) (s x : Operand)
    (ho : o.op = .call { callee := .builtin .append, args := #[s, x], argTypes := #[41, 41] })
    {base : Nat} {v : Value} {n : Nat} {xs : List Value} (hs : a.eval s = v) (hown : w.ownsRow base 3 1 v n xs) {vs : Value} {l : List Int} (hx : a.eval x = vs) {lo hi : Nat} (hz : IntsZ w lo hi vs l) (hsmall : n + l.length ≤ 3000000) (hbase : base ≤ w.heap.size)
    (h : ∀ v' w', w'.ownsRow base 3 1 v' (n + l.length) (xs ++ l.map (Value.int .i64)) → w.grownBy w' v.ownBlock → (v'.ownBlock = v.ownBlock ∨ v'.ownBlock = some w.heap.size) → wpList Try.prog ops Q rest (a.put o.dst v') w') :
    wpList Try.prog ops Q (o :: rest) a w := by
  refine wpList_plain hgd fun K hK => ?_
  obtain ⟨v', w', hr, h2, h3, h5⟩ := run_append_ints w base o.type v n xs hown vs l lo hi hz hsmall hbase
  unfold Oper.wp execOp
  simp only [ho, resolve, invoke, builtin, Sem.run_bind, Sem.run_pure, Result.andThen_ok, List.map_toArray, List.map_cons, List.map_nil, hs, hx, hr]
  exact hK _ _ (h v' w' h2 h3 h5)

theorem step_app_ints {ops : Array Oper} {o : Oper} {a : Act} {w : World} {K : Act → World → Prop} {Q : Exit → Act → World → Prop} {E : Prop} (hgd : o.guard = none) (s x : Operand)
    (ho : o.op = .call { callee := .builtin .append, args := #[s, x], argTypes := #[41, 41] })
    {base : Nat} {v : Value} {n : Nat} {xs : List Value} (hown : w.ownsRow base 3 1 v n xs) (hs : a.eval s = v) {vs : Value} {l : List Int} {lo hi : Nat} (hz : IntsZ w lo hi vs l) (hx : a.eval x = vs)
    (hsmall : n + l.length ≤ 3000000) (hbase : base ≤ w.heap.size)
    (h : ∀ v' w', w'.ownsRow base 3 1 v' (n + l.length) (xs ++ l.map (Value.int .i64)) → w.grownBy w' v.ownBlock → (v'.ownBlock = v.ownBlock ∨ v'.ownBlock = some w.heap.size) → K (a.put o.dst v') w') :
    if Region.wanted o (yielded ops a.tmps) = true then Oper.wp Try.prog o a w K Q else E := by
  have hw : Region.wanted o (yielded ops a.tmps) = true := by simp [Region.wanted, hgd]
  rw [if_pos hw]
  obtain ⟨v', w', hr, h2, h3, h5⟩ := run_append_ints w base o.type v n xs hown vs l lo hi hz hsmall hbase
  unfold Oper.wp execOp
  simp only [ho, resolve, invoke, builtin, Sem.run_bind, Sem.run_pure, Result.andThen_ok, List.map_toArray, List.map_cons, List.map_nil, hs, hx, hr]
  exact h v' w' h2 h3 h5

theorem zeros_oneC (z : Value) (n : Nat) : Builtin.zeroCells #[z] n = (List.replicate n z).toArray := by
  apply Array.ext
  · simp [Builtin.zeroCells]
  · intro i h1 h2
    simp [Builtin.zeroCells, Nat.mod_one]

set_option maxRecDepth 100000 in
set_option maxHeartbeats 4000000 in
/-- slices.Grow at nil -/
theorem growC_calls (n : Nat) (w : World) (hn : n ≤ 100000) :
    Calls Try.prog 68 #[.slice none 0 0, .int .i64 n] w fun e w' => ∃ v, e = .returned v ∧ w'.ownsRow w.heap.size 3 1 v 0 [] ∧ Below w.heap.size w w' := by
  obtain ⟨i0, hi0, hz0, hz1, hz2⟩ := info_parts infoIntA
  have h1 : ¬ ((n : Int) < 0) := by omega
  by_cases h0 : 0 < n
  · have hrz : ∀ ty, (Builtin.append_ #[41, 3] ty #[.slice none 0 0, .int .i64 (n : Int)]).run Try.prog w =
        .ok (.slice (some ⟨w.heap.size, 0, none⟩) n (grownCap w n 0 3)) (w.drew.alloc (.cells ((List.replicate n (Value.int .i64 0)).toArray ++ (List.replicate (grownCap w n 0 3 - n) (Value.int .i64 0)).toArray) 3)) := fun ty => by
      have h := Lib.run_append_grow_zeros w 41 3 ty 3 i0 (.int .i64 0) .i64 .i64 Try.underlying41 Try.underlying3 hi0 hz0 none 0 0 [] (run_firstCells_none w.drew i0.size 0 0 0) n (by omega) (by omega) (by omega) (by omega)
        (by rw [hz2]; omega) (by rw [Nat.zero_add]; exact growslice_fits (by omega) (by rw [hz2]; omega))
      rw [Nat.zero_add] at h
      have e : (Value.int .i64 0).cells = #[Value.int .i64 0] := rfl
      rw [e, zeros_oneC, zeros_oneC] at h
      simpa using h
    have hGn : n ≤ grownCap w n 0 3 := grownCap_ge w _ _ _
    have hGm := grownCap_le_maxLen w n 0 3 (by unfold maxLen; omega)
    obtain ⟨G, hG⟩ : ∃ G, grownCap w n 0 3 = G := ⟨_, rfl⟩
    rw [hG] at hrz hGn hGm
    obtain ⟨m, hm⟩ : ∃ m, G - n = m := ⟨_, rfl⟩
    rw [hm] at hrz
    have h4 : (n : Int) > 0 := by omega
    have hG63 : (G : Int) ≤ 9223372036854775807 := by unfold maxLen at hGm; omega
    have HR : Hid (∀ cs : Array Value, cs.size = G → (w.drew.alloc (.cells cs 3)).ownsRow w.heap.size 3 1 (.slice (some ⟨w.heap.size, 0, none⟩) 0 G) 0 []) := Lib.hid (fun cs hs => ⟨rfl, Or.inr ⟨w.heap.size, G, cs, rfl, Nat.le_refl _, heap_alloc_new w.drew _, Nat.zero_le _, hGm, by rw [hs]; omega, rfl⟩⟩)
    have HS : Hid (((List.replicate n (Value.int .i64 0)).toArray ++ (List.replicate m (Value.int .i64 0)).toArray).size = G) := Lib.hid (by simp; omega)
    have HB : Hid (∀ o, Below w.heap.size w (w.drew.alloc o)) := Lib.hid (fun o => (below_drewN (Below.refl _ _) 1).alloc (Nat.le_refl _) _)
    generalize ((List.replicate n (Value.int .i64 0)).toArray ++ (List.replicate m (Value.int .i64 0)).toArray) = cs at hrz HS
    clear hG hm hi0 hz0 hz1 hz2
    go_enter Try.func68, Try.ntmps68
    go_wp2_with (at_builtin; refine Lib.wpList_append_run _ rfl _ _ _ _ rfl _ _ rfl rfl _ _ (hrz _) ?_)
    all_goals (go_ret; exact ⟨_, rfl, HR.out _ HS.out, HB.out _⟩)
  · obtain rfl : n = 0 := by omega
    go_enter Try.func68, Try.ntmps68
    go_wp2
    go_ret
    exact ⟨_, rfl, World.ownsRow_nil _ _ _ _, Below.refl _ _⟩

theorem own_shapeC {w : World} {base : Nat} {e : TypeId} {size : Nat} {v : Value} {n : Nat} {xs : List Value} (h : w.ownsRow base e size v n xs) : ∃ a c, v = .slice a n c := by
  rcases h.2 with ⟨h1, h0⟩ | ⟨g, c, cs, h1, _⟩
  · exact ⟨none, 0, by rw [h1, h0]⟩
  · exact ⟨_, _, h1⟩

theorem flat_take {LS : List (List Int)} {k : Nat} {l : List Int} (h : LS[k]? = some l) : (LS.take (k + 1)).flatten = (LS.take k).flatten ++ l := by
  rw [List.take_add_one, h, List.flatten_append]
  simp
theorem flat_le (LS : List (List Int)) (k : Nat) : (LS.take k).flatten.length ≤ LS.flatten.length := by
  have h : LS = LS.take k ++ LS.drop k := (List.take_append_drop k LS).symm
  have h2 : LS.flatten.length = ((LS.take k).flatten ++ (LS.drop k).flatten).length := by rw [← List.flatten_append, ← h]
  rw [h2, List.length_append]
  omega

set_option maxRecDepth 100000 in
set_option maxHeartbeats 4000000 in
/-- slices.Concat of lists of numbers -/
theorem concat_calls (b : Nat) (LS : List (List Int)) (w : World) (hb : b < w.heap.size) (hc : ∀ k l, LS[k]? = some l → ∃ v, w.cell? ⟨b, k, none⟩ = some v ∧ IntsZ w 0 w.heap.size v l) (hn : LS.length ≤ 1000) (hl : LS.flatten.length ≤ 100000) :
    Calls Try.prog 34 #[.slice (some ⟨b, 0, none⟩) LS.length LS.length] w fun e w' => ∃ a c, e = .returned (.slice a LS.flatten.length c) ∧ OwnI w' w.heap.size (.slice a LS.flatten.length c) LS.flatten ∧ Below w.heap.size w w' := by
  have HC := Lib.hid hc
  have HFL := Lib.hid (flat_le LS)
  have HBR := Lib.hid (Below.refl w.heap.size w)
  clear hc
  go_enter Try.func34, Try.ntmps34
  go_wp2
  go_loopw [3, 11] (fun q i wr => ∃ (k s : Nat), k ≤ LS.length ∧ i = .int .i64 k ∧ q = .int .i64 s ∧ Hid (s = (LS.take k).flatten.length) ∧ Hid (Below w.heap.size w wr)) (fun _ i _ => LS.length - (intOf i).toNat)
  case atStart => exact ⟨0, 0, Nat.zero_le _, rfl, rfl, Lib.hid (by simp), HBR⟩
  case round =>
    obtain ⟨k, s, hk, rfl, rfl, hs, hbw⟩ := hrel
    by_cases hlt : k < LS.length
    · obtain ⟨l, hlk⟩ := lt_get hlt
      obtain ⟨v, hv, iz⟩ := HC.out k l hlk
      obtain ⟨ao, c, rfl, _, _⟩ := iz
      have hv' := (bcell hbw.out b k hb).trans hv
      have HS2 : Hid (s + l.length = (LS.take (k + 1)).flatten.length) := Lib.hid (by rw [flat_take hlk, List.length_append, ← hs.out])
      have h2 := HFL.out (k + 1)
      rw [← HS2.out] at h2
      have i0 : (0 : Int) ≤ k := by omega
      have i1 : (k : Int) < LS.length := by omega
      have i2 : IntKind.i64.wrap ((s : Int) + l.length) = (s : Int) + l.length := IntWalk.i64_in _ (by omega)
      have i3 : ¬ (s : Int) + l.length < 0 := by omega
      clear hs hv
      go_wp2
      go_roundw
      case rel => exact ⟨k + 1, s + l.length, by omega, by go_num, by simp, HS2, hbw⟩
      case measure => simp [intOf]; omega
    · have hke : k = LS.length := by omega
      subst hke
      rw [List.take_length] at hs
      have HSE := Lib.hid hs.out
      have CG := Lib.hid (growC_calls s wr (by rw [HSE.out]; exact hl))
      have hws := hbw.out.size
      clear hs
      go_wp2_with fail
      refine CG.out.mono ?_
      rintro e w1 ⟨v1, rfl, ho1, hb1⟩
      obtain ⟨a1, c1, rfl⟩ := own_shapeC ho1
      have HB1 := Lib.hid (hbw.out.trans (hb1.mono hws))
      have HO1 := Lib.hid (World.ownsRow.mono ho1 hws)
      clear ho1 hb1 CG
      go_wp2
      go_loopw [6, 27] (fun q i wr => ∃ (k n : Nat) (a : Option Addr) (c : Nat), k ≤ LS.length ∧ i = .int .i64 k ∧ q = .slice a n c ∧ Hid (n = (LS.take k).flatten.length) ∧ Hid (wr.ownsRow w.heap.size 3 1 (.slice a n c) n ((LS.take k).flatten.map (Value.int .i64))) ∧ Hid (Below w.heap.size w wr)) (fun _ i _ => LS.length - (intOf i).toNat)
      case atStart => exact ⟨0, 0, a1, c1, Nat.zero_le _, rfl, rfl, Lib.hid (by simp), HO1, HB1⟩
      case round =>
        obtain ⟨k, n, a, c, hk, rfl, rfl, hs, ho, hbq⟩ := hrel
        clear HO1 HB1
        by_cases hlt : k < LS.length
        · obtain ⟨l, hlk⟩ := lt_get hlt
          obtain ⟨v, hv, iz⟩ := HC.out k l hlk
          obtain ⟨ao, co, rfl, _, _⟩ := (id iz)
          have iz2 := iz.below hbq.out (Nat.le_refl _)
          have hv' := (bcell hbq.out b k hb).trans hv
          have HS2 : Hid (n + l.length = (LS.take (k + 1)).flatten.length) := Lib.hid (by rw [flat_take hlk, List.length_append, ← hs.out])
          have HF2 : Hid ((LS.take (k + 1)).flatten.map (Value.int .i64) = (LS.take k).flatten.map (Value.int .i64) ++ l.map (Value.int .i64)) := Lib.hid (by rw [flat_take hlk, List.map_append])
          have h2 := HFL.out (k + 1)
          rw [← HS2.out] at h2
          have i0 : (0 : Int) ≤ k := by omega
          have i1 : (k : Int) < LS.length := by omega
          have HZ := Lib.hid iz2
          have hzz := hbq.out.size
          clear iz iz2 hv
          go_wp2_with (at_builtin; refine wpList_append_ints rfl _ _ rfl rfl ho.out rfl HZ.out (by omega) (by omega) ?_; intro v2 w2 hown2 hgrow2 hat2)
          obtain ⟨a2, c2, rfl⟩ := own_shapeC hown2
          have R1 := Lib.hid hown2
          rw [← HF2.out] at R1
          have R2 := Lib.hid (hbq.out.grown hgrow2 (by omega) (fun q hq => (World.ownsRow.lt ho.out q hq).1))
          clear hown2 hgrow2 hat2 ho hbq HZ HF2
          go_wp2
          go_roundw
          case rel => exact ⟨k + 1, n + l.length, a2, c2, by omega, by go_num, rfl, HS2, R1, R2⟩
          case measure => simp [intOf]; omega
        · have hke : k = LS.length := by omega
          subst hke
          rw [List.take_length] at hs ho
          have HOE : Hid (OwnI wr w.heap.size (.slice a n c) LS.flatten) := Lib.hid (by
            unfold OwnI
            rw [← hs.out]
            exact ho.out)
          have HN := Lib.hid hs.out
          clear HSE hs ho
          go_wp2
          go_ret
          rw [← HN.out]
          exact ⟨a, c, rfl, HOE.out, hbq.out⟩
end

section
open Go.RowKit
set_option linter.unusedVariables false
set_option linter.unusedSimpArgs false

/-- a node is put beside the two rows -/
theorem MkS.putO {base : Nat} {wr : World} {Q : List Nd} {TL TR : List Nat} {gl cl gr cr : Nat} {vn vb : Value} {vs : List (Value × Value)} (h : MkS base wr Q TL TR gl cl gr cr vn vb vs) (hP : Q.length ≤ 90000) (W : World) (hW : Below wr.heap.size wr W) (vl vr : Value) (nd : Nd) (l1 h1 l2 h2 : Nat) (hh1 : h1 ≤ W.heap.size) (hh2 : h2 ≤ W.heap.size)
    (hvl : IntsZ W l1 h1 vl (upL (nd.1.map (fun x => (addF [] Q).2.getD x 0)))) (hvr : IntsZ W l2 h2 vr (upL (nd.2.map (fun x => (addF [] Q).2.getD x 0)))) (hx : ∀ x, x ∈ nd.1 ∨ x ∈ nd.2 → x < Q.length) (hlL : nd.1.length ≤ 90000) (hlR : nd.2.length ≤ 90000) :
    Calls Try.prog 65 #[.pointer (some ⟨base, 0, none⟩), vl, vr] W fun e w' => e = .returned (.int .i64 ((seat (addF [] Q).1 (movd (fun x => (addF [] Q).2.getD x 0) nd) : Nat) : Int)) ∧ ∃ vn' vb' vs', Bk base w' base (bookPut (addF [] Q).1 (movd (fun x => (addF [] Q).2.getD x 0) nd)) (bornsOf (bookPut (addF [] Q).1 (movd (fun x => (addF [] Q).2.getD x 0) nd))) vn' vb' vs' (fun g => g = gl ∨ g = gr) ∧ Only W w' (Foot base vn vb) ∧ (∀ g, g < W.heap.size → Foot base vn' vb' g → Foot base vn vb g) := by
  have ha := addF_added [] book_nil Q h.und
  have hs := h.size
  have hlt : ∀ x, x < Q.length → (addF [] Q).2.getD x 0 < (addF [] Q).1.length := fun x hx => by
    obtain ⟨n0, hn0⟩ := lt_get hx
    exact get_lt (ha.node x n0 hn0)
  have hlen := (addF_len [] Q).2
  exact Go.Proofs.Ytanjanckkgbnbaa.put_calls base base (addF [] Q).1 vn vb vs (fun g => g = gl ∨ g = gr) vl vr (nd.1.map (fun x => (addF [] Q).2.getD x 0)) (nd.2.map (fun x => (addF [] Q).2.getD x 0)) W l1 h1 l2 h2 hh1 hh2 (h.bk.below hW) (fun g e => by have := hW.size; rcases e with e | e <;> omega) ha.book.struct.under hvl hvr
    (fun y hy => by obtain ⟨x, hx', rfl⟩ := List.mem_map.1 hy; exact hlt x (hx x (Or.inl hx'))) (fun y hy => by obtain ⟨x, hx', rfl⟩ := List.mem_map.1 hy; exact hlt x (hx x (Or.inr hx'))) (by simp at hlen; omega) (by simp; omega) (by simp; omega)

theorem firstNd {G : List Nd} (hu : Under G) (h0 : 0 < G.length) : G[0]? = some ([], []) := by
  obtain ⟨nd, hnd⟩ := lt_get h0
  rw [hnd]
  have h := hu 0 nd hnd
  have e1 : nd.1 = [] := List.eq_nil_iff_forall_not_mem.2 fun x hx => by have := h x (Or.inl hx); omega
  have e2 : nd.2 = [] := List.eq_nil_iff_forall_not_mem.2 fun x hx => by have := h x (Or.inr hx); omega
  exact congrArg some (Prod.ext e1 e2)

theorem own_up {w : World} {base : Nat} {v : Value} {A B C : List Nat} (h : w.ownsRow base 3 1 v ((upL A).length + (upL B).length) ((upL A).map (Value.int .i64) ++ (upL B).map (Value.int .i64))) (hC : A ++ B = C) : ∃ a c, v = .slice a C.length c ∧ OwnI w base (.slice a C.length c) (upL C) := by
  subst hC
  obtain ⟨a, c, rfl⟩ := own_shapeC h
  have e : (upL A).length + (upL B).length = (A ++ B).length := by rw [upL_len, upL_len, List.length_append]
  rw [e] at h ⊢
  refine ⟨a, c, rfl, ?_⟩
  unfold OwnI
  rw [upL_len]
  have e2 : upL (A ++ B) = upL A ++ upL B := by unfold upL; rw [List.map_append]
  rw [e2, List.map_append]
  exact h

set_option maxRecDepth 100000 in
set_option maxHeartbeats 20000000 in
theorem l5Ordinal_calls (A G : List Nd) (a : Nd) (aa ab : Option Addr) (ca cb : Nat) (w : World) (lo hi lo' hi' : Nat) (hh : hi ≤ w.heap.size) (hh' : hi' ≤ w.heap.size) (ha : NodesZ w lo hi (.slice aa A.length ca) (A.map upN)) (hb : NodesZ w lo' hi' (.slice ab G.length cb) (G.map upN)) (hA : A.length ≤ 120) (hG : G.length ≤ 120)
    (pG : 0 < G.length) (haL : A[A.length - 1]? = some a) (uA : Under A) (uG : Under G) (sA : ∀ nd ∈ A, nd.1.length ≤ 24 ∧ nd.2.length ≤ 24) (sG : ∀ nd ∈ G, nd.1.length ≤ 24 ∧ nd.2.length ≤ 24) :
    Calls Try.prog 30 #[.agg #[.slice aa A.length ca], .agg #[.slice ab G.length cb]] w fun e w' => ∃ v, e = .returned (.agg #[v]) ∧ NodesZ w' w.heap.size w'.heap.size v ((formM (ordD A a (G.drop 1))).map upN) ∧ Below w.heap.size w w' := by
  have HA := Lib.hid fun (W : World) (hW : Below w.heap.size w W) => ha.below hW hh
  have HG := Lib.hid fun (W : World) (hW : Below w.heap.size w W) => hb.below hW hh'
  have pA := get_lt haL
  have hsz := sA a (List.mem_of_getElem? haL)
  have hua := uA _ a haL
  have HUA := Lib.hid hua
  have UG := Lib.hid uG
  have SG := Lib.hid sG
  have HSTEP := Lib.hid fun (k : Nat) (nd : Nd) (hk : G[k]? = some nd) => os_step (A := A) (a := a) (nd := nd) (G := G) uA haL uG (firstNd uG pG) k hk
  have HUND := Lib.hid (osP_under (A := A) (a := a) (G := G) uA haL uG)
  have HPL := Lib.hid (osP_len A a G)
  obtain ⟨bA, offA, cA, v1, v2, e, _, p1, p2, i1, i2⟩ := nodes_atP ha haL
  obtain ⟨q1, q2, q3⟩ := slice_inj e
  clear q2
  subst q1 q3
  have hbA : bA < w.heap.size := block_of_cell p1
  obtain ⟨ar1, nr1, cr1, hvr1⟩ : ∃ a n c, v1 = .slice a n c := by obtain ⟨a, c, e, _⟩ := i1; exact ⟨a, _, c, e⟩
  obtain ⟨ar2, nr2, cr2, hvr2⟩ : ∃ a n c, v2 = .slice a n c := by obtain ⟨a, c, e, _⟩ := i2; exact ⟨a, _, c, e⟩
  subst hvr1 hvr2
  have HI1 := Lib.hid i1
  have HI2 := Lib.hid i2
  have e0 : (((w.alloc (.cells #[.slice (some ⟨bA, offA, none⟩) A.length ca] 28)).alloc (.cells #[.slice ab G.length cb] 28)).alloc (.cells #[.slice none 0 0] 28)).heap.size = w.heap.size + 3 := by simp
  have hst := bk_nilM (((w.alloc (.cells #[.slice (some ⟨bA, offA, none⟩) A.length ca] 28)).alloc (.cells #[.slice ab G.length cb] 28)).alloc (.cells #[.slice none 0 0] 28))
  rw [e0] at hst
  have HB0 : Below w.heap.size w ((((w.alloc (.cells #[.slice (some ⟨bA, offA, none⟩) A.length ca] 28)).alloc (.cells #[.slice ab G.length cb] 28)).alloc (.cells #[.slice none 0 0] 28)).alloc (.cells #[.slice none 0 0, .slice none 0 0] 74)) :=
    ((((Below.refl _ _).alloc (Nat.le_refl _) _).alloc (by simp) _).alloc (by simp; omega) _).alloc (by simp; omega) _
  have CADD := Lib.hid (add_callsR (fun _ => False) (w.heap.size + 3) (w.heap.size + 3) [] (.slice none 0 0) (.slice none 0 0) [] (.slice (some ⟨bA, offA, none⟩) A.length ca) A _ lo hi (by omega) (fun g hg => hg.elim) (fun g _ h => h) hst book_nil (ha.below HB0 hh) uA (by simp; omega) (fun nd hnd => by have := sA nd hnd; omega))
  have HB0 := Lib.hid HB0
  have HX0 : Hid (BoxAt ((((w.alloc (.cells #[.slice (some ⟨bA, offA, none⟩) A.length ca] 28)).alloc (.cells #[.slice ab G.length cb] 28)).alloc (.cells #[.slice none 0 0] 28)).alloc (.cells #[.slice none 0 0, .slice none 0 0] 74)) (w.heap.size + 2) (.slice none 0 0)) := Lib.hid ⟨by go_simp, by go_simp⟩
  have kf0 : ((((w.alloc (.cells #[.slice (some ⟨bA, offA, none⟩) A.length ca] 28)).alloc (.cells #[.slice ab G.length cb] 28)).alloc (.cells #[.slice none 0 0] 28)).alloc (.cells #[.slice none 0 0, .slice none 0 0] 74)).cell? ⟨w.heap.size, 0, none⟩ = some (.slice (some ⟨bA, offA, none⟩) A.length ca) := by go_simp
  have kg0 : ((((w.alloc (.cells #[.slice (some ⟨bA, offA, none⟩) A.length ca] 28)).alloc (.cells #[.slice ab G.length cb] 28)).alloc (.cells #[.slice none 0 0] 28)).alloc (.cells #[.slice none 0 0, .slice none 0 0] 74)).cell? ⟨w.heap.size + 1, 0, none⟩ = some (.slice ab G.length cb) := by go_simp
  have KF0 := Lib.hid kf0
  have KG0 := Lib.hid kg0
  have HUAA := Lib.hid uA
  clear ha hb uA uG sA sG hst e0 e i1 i2 hua haL kf0 kg0
  obtain ⟨iI, hiI, hzI0, hzI1, hzI2⟩ := info_parts infoIntA
  go_enter Try.func30, Try.ntmps30
  go_wp2_with fail
  refine CADD.out.mono ?_
  rintro e w1 ⟨gr, cr, vn, vb, vs, rfl, hor, hgr, hnf, hK, ho, hft⟩
  have hFT : ∀ g, Foot (w.heap.size + 3) (.slice none 0 0) (.slice none 0 0) g → g = w.heap.size + 3 := fun g h => by
    rcases h with h | h | h
    · exact h
    · simp [Value.ownBlock] at h
    · simp [Value.ownBlock] at h
  have hz0 : ((((w.alloc (.cells #[.slice (some ⟨bA, offA, none⟩) A.length ca] 28)).alloc (.cells #[.slice ab G.length cb] 28)).alloc (.cells #[.slice none 0 0] 28)).alloc (.cells #[.slice none 0 0, .slice none 0 0] 74)).heap.size = w.heap.size + 4 := by simp
  have HB1 := Lib.hid (HB0.out.trans (ho.below (base := w.heap.size) (by rw [hz0]; omega) (fun g h => by have := hFT g h; omega)))
  have HX1 := Lib.hid (HX0.out.only ho (fun h => by have := hFT _ h; omega))
  have kf1 := (ho.cell (o := 0) (by rw [hz0]; omega) (fun h => by have := hFT _ h; omega)).trans KF0.out
  have kg1 := (ho.cell (o := 0) (by rw [hz0]; omega) (fun h => by have := hFT _ h; omega)).trans KG0.out
  have pp1 := (bcell HB1.out bA (offA + (A.length - 1) * 2) hbA).trans p1
  have pp2 := (bcell HB1.out bA (offA + (A.length - 1) * 2 + 1) hbA).trans p2
  have hs1 := HB1.out.size
  have hg1 := (World.ownsRow.lt hor gr rfl)
  have hnA : ¬ Foot (w.heap.size + 3) vn vb w.heap.size := fun h => by have := (hK.lt _ h).1; omega
  have hn1 : IntKind.i64.wrap ((A.length : Int) - 1) = (A.length : Int) - 1 := IntWalk.i64_in _ (by omega)
  have hn2 : (0 : Int) ≤ (A.length : Int) - 1 := by omega
  have hn3 : (A.length : Int) - 1 < A.length := by omega
  have hn4 : ((A.length : Int) - 1).toNat = A.length - 1 := by omega
  have hbl : Below w1.heap.size w1 (w1.alloc (.cells #[.slice ar1 nr1 cr1, .slice ar2 nr2 cr2] 57)) := (Below.refl _ _).alloc (Nat.le_refl _) _
  have hzl : (w1.alloc (.cells #[.slice ar1 nr1 cr1, .slice ar2 nr2 cr2] 57)).heap.size = w1.heap.size + 1 := by simp
  have hbl2 : Below w1.heap.size w1 ((w1.alloc (.cells #[.slice ar1 nr1 cr1, .slice ar2 nr2 cr2] 57)).alloc (.cells #[] 3)) := hbl.alloc (by rw [hzl]; omega) _
  have hms := MkS.ofAdd (base := w.heap.size + 3) (w := w1.alloc (.cells #[.slice ar1 nr1 cr1, .slice ar2 nr2 cr2] 57)) (A := A) (gr := gr) (cr := cr) (vn := vn) (vb := vb) (vs := vs) HUAA.out ((hK.reX (Y := fun g => g = gr) (fun g _ e => Or.inl e)).below hbl) (World.ownsRow.alloc hor _) (by rw [hz0] at hgr; omega) hnf
  rw [hzl] at hms
  have HMS : Hid (MkS (w.heap.size + 3) ((w1.alloc (.cells #[.slice ar1 nr1 cr1, .slice ar2 nr2 cr2] 57)).alloc (.cells #[] 3)) (osP A a G 0) (osT (A.length - 1) 0) (List.range A.length) (w1.heap.size + 1) 0 gr cr vn vb vs) := Lib.hid (by rw [osP_zero, osT_zero]; exact hms)
  have HBL := Lib.hid (HB1.out.trans (hbl2.mono hs1))
  have HXL := Lib.hid (HX1.out.below hbl2)
  have kgl := (bcell hbl2 _ _ (block_of_cell kg1)).trans kg1
  have kl1 : ((w1.alloc (.cells #[.slice ar1 nr1 cr1, .slice ar2 nr2 cr2] 57)).alloc (.cells #[] 3)).cell? ⟨w1.heap.size, 0, none⟩ = some (.slice ar1 nr1 cr1) := by go_simp
  have kl2 : ((w1.alloc (.cells #[.slice ar1 nr1 cr1, .slice ar2 nr2 cr2] 57)).alloc (.cells #[] 3)).cell? ⟨w1.heap.size, 1, none⟩ = some (.slice ar2 nr2 cr2) := by go_simp
  have hL0 : w.heap.size + 3 < w1.heap.size := by
    have := ho.size
    rw [hz0] at this
    omega
  have KGL := Lib.hid kgl
  have HNF : Hid (¬ Foot (w.heap.size + 3) vn vb w1.heap.size) := Lib.hid (fun h => by have := (hK.lt _ h).2; omega)
  have KL1 := Lib.hid kl1
  have KL2 := Lib.hid kl2
  clear hK hor ho hft hms hbl hbl2 HB0 HX0 KF0 KG0 CADD hFT hz0 HX1 kgl kl1 kl2 hnf
  go_wp2
  clear pp1 pp2 kf1 kg1
  go_loopw [8, 9] (fun q i wr => ∃ (k ga ca' : Nat) (vn vb : Value) (vs : List (Value × Value)), k ≤ G.length ∧ i = .int .i64 k ∧ q = .slice (some ⟨ga, 0, none⟩) k ca' ∧ Hid (MkS (w.heap.size + 3) wr (osP A a G k) (osT (A.length - 1) k) (List.range A.length) ga ca' gr cr vn vb vs) ∧
      Hid (Below w.heap.size w wr) ∧ Hid (BoxAt wr (w.heap.size + 2) (.slice none 0 0)) ∧ Hid (wr.cell? ⟨w.heap.size + 1, 0, none⟩ = some (.slice ab G.length cb)) ∧ Hid (wr.cell? ⟨w1.heap.size, 0, none⟩ = some (.slice ar1 nr1 cr1)) ∧ Hid (wr.cell? ⟨w1.heap.size, 1, none⟩ = some (.slice ar2 nr2 cr2)) ∧ Hid (w1.heap.size < ga) ∧ Hid (¬ Foot (w.heap.size + 3) vn vb w1.heap.size)) (fun _ i _ => G.length - (intOf i).toNat)
  case atStart => exact ⟨0, w1.heap.size + 1, 0, _, _, _, Nat.zero_le _, rfl, rfl, HMS, HBL, HXL, KGL, KL1, KL2, Lib.hid (by omega), HNF⟩
  case round =>
    obtain ⟨k, ga, ca', vn, vb, vs, hk, rfl, rfl, hS, hbw, hx, kg, k1, k2, hga, hft⟩ := hrel
    clear HMS HBL HXL KGL KL1 KL2 HB1 HNF
    by_cases hlt : k < G.length
    · obtain ⟨nd, hnd⟩ := lt_get hlt
      obtain ⟨bG, offG, cG, u1, u2, e, hbh, g1, g2, j1, j2⟩ := nodes_atP (HG.out wr hbw.out) hnd
      obtain ⟨q1, q2, q3⟩ := slice_inj e
      clear q2
      subst q1 q3
      have hbGw := block_of_cell g1
      obtain ⟨as1, ns1, cs1, hu1⟩ : ∃ a n c, u1 = .slice a n c := by obtain ⟨a, c, e, _⟩ := j1; exact ⟨a, _, c, e⟩
      obtain ⟨as2, ns2, cs2, hu2⟩ : ∃ a n c, u2 = .slice a n c := by obtain ⟨a, c, e, _⟩ := j2; exact ⟨a, _, c, e⟩
      subst hu1 hu2
      have hnn := SG.out nd (List.mem_of_getElem? hnd)
      have hux := UG.out k nd hnd
      have hQl := HPL.out k (by omega)
      have hQ2 := HPL.out (k + 1) (by omega)
      have hQ0 := HPL.out 0 (by omega)
      obtain ⟨st1, st2, st3⟩ := HSTEP.out k nd hnd
      have hU2 := HUND.out (k + 1)
      have hrow := os_row A a nd (osP A a G k) k (fun x hx => by have := HUA.out x hx; omega) hux
      obtain ⟨Q, hQ⟩ : ∃ Q, osP A a G k = Q := ⟨_, rfl⟩
      obtain ⟨Q', hQ'⟩ : ∃ Q', osP A a G (k + 1) = Q' := ⟨_, rfl⟩
      rw [hQ] at hS hQl st1 st2 st3 hrow
      rw [hQ'] at hQ2 st1 st2 st3 hU2
      have hbs := hbw.out.size
      have hks := hS.out.size
      obtain ⟨_, hAIr⟩ := own_intsA hS.out.or_ (by rw [List.length_range]; omega)
      obtain ⟨_, hAIt⟩ := own_intsA hS.out.ol (by rw [osT_len]; omega)
      rw [List.length_range] at hAIr
      rw [osT_len] at hAIt
      have D1 := Lib.hid fun (W : World) (hW : RowKit.Below wr.heap.size wr W) => l3At_own (.slice (some ⟨gr, 0, none⟩) A.length cr) (.slice ar1 nr1 cr1) (atT Q (List.range A.length)) a.1 W gr (gr + 1) lo hi (by have := hW.size; omega) (by have := hW.size; omega) (hAIr.below hW (by omega)) ((HI1.out.below hbw.out hh).below hW (by omega)) (by omega) (fun x hx => by have := HUA.out x (Or.inl hx); unfold atT; rw [List.length_map, List.length_range]; omega)
      have D2 := Lib.hid fun (W : World) (hW : RowKit.Below wr.heap.size wr W) => l3At_own (.slice (some ⟨gr, 0, none⟩) A.length cr) (.slice ar2 nr2 cr2) (atT Q (List.range A.length)) a.2 W gr (gr + 1) lo hi (by have := hW.size; omega) (by have := hW.size; omega) (hAIr.below hW (by omega)) ((HI2.out.below hbw.out hh).below hW (by omega)) (by omega) (fun x hx => by have := HUA.out x (Or.inr hx); unfold atT; rw [List.length_map, List.length_range]; omega)
      have E1 := Lib.hid fun (W : World) (hW : RowKit.Below wr.heap.size wr W) => l3At_own (.slice (some ⟨ga, 0, none⟩) k ca') (.slice as1 ns1 cs1) (atT Q (osT (A.length - 1) k)) nd.1 W ga (ga + 1) lo' hi' (by have := hW.size; omega) (by have := hW.size; omega) (hAIt.below hW (by omega)) (j1.below hW (by omega)) (by omega) (fun x hx => by have := hux x (Or.inl hx); unfold atT; rw [List.length_map, osT_len]; omega)
      have E2 := Lib.hid fun (W : World) (hW : RowKit.Below wr.heap.size wr W) => l3At_own (.slice (some ⟨ga, 0, none⟩) k ca') (.slice as2 ns2 cs2) (atT Q (osT (A.length - 1) k)) nd.2 W ga (ga + 1) lo' hi' (by have := hW.size; omega) (by have := hW.size; omega) (hAIt.below hW (by omega)) (j2.below hW (by omega)) (by omega) (fun x hx => by have := hux x (Or.inr hx); unfold atT; rw [List.length_map, osT_len]; omega)
      have hmL : (ordN (A.length - 1) a nd).1.length ≤ 90000 := by unfold ordN; simp; omega
      have hmR : (ordN (A.length - 1) a nd).2.length ≤ 90000 := by unfold ordN; simp; omega
      have hmx : ∀ x, x ∈ (ordN (A.length - 1) a nd).1 ∨ x ∈ (ordN (A.length - 1) a nd).2 → x < Q.length := fun x hx => by
        rcases ordN_mem hx with h | ⟨y, h, rfl⟩
        · have := HUA.out x h; omega
        · have := hux y h; omega
      obtain ⟨X, hX⟩ : ∃ X, ordN (A.length - 1) a nd = X := ⟨_, rfl⟩
      rw [hX] at st1 st2 hrow hmL hmR hmx
      obtain ⟨hr1, hr2⟩ := hrow
      generalize a.1.map (fun x => (atT Q (List.range A.length)).getD x 0) = LA1 at D1 hr1
      generalize a.2.map (fun x => (atT Q (List.range A.length)).getD x 0) = LA2 at D2 hr2
      generalize nd.1.map (fun x => (atT Q (osT (A.length - 1) k)).getD x 0) = LB1 at E1 hr1
      generalize nd.2.map (fun x => (atT Q (osT (A.length - 1) k)).getD x 0) = LB2 at E2 hr2
      have C3 := Lib.hid fun (W : World) (hW : RowKit.Below wr.heap.size wr W) (vl vr : Value) (l1 h1 l2 h2 : Nat) (hh1 : h1 ≤ W.heap.size) (hh2 : h2 ≤ W.heap.size) hvl hvr => hS.out.putO (by omega) W hW vl vr X l1 h1 l2 h2 hh1 hh2 hvl hvr hmx hmL hmR
      rw [← st1, ← st2] at C3
      have HM1 : Hid ((X.1.map (fun x => (addF [] Q).2.getD x 0)).length ≤ 90000) := Lib.hid (by simpa using hmL)
      have HM2 : Hid ((X.2.map (fun x => (addF [] Q).2.getD x 0)).length ≤ 90000) := Lib.hid (by simpa using hmR)
      generalize X.1.map (fun x => (addF [] Q).2.getD x 0) = M1 at C3 hr1 HM1
      generalize X.2.map (fun x => (addF [] Q).2.getD x 0) = M2 at C3 hr2 HM2
      have HR1 := Lib.hid hr1
      have HR2 := Lib.hid hr2
      have hlA1 : LA1.length + LB1.length ≤ 90000 := by rw [← List.length_append, hr1]; exact HM1.out
      have hlA2 : LA2.length + LB2.length ≤ 90000 := by rw [← List.length_append, hr2]; exact HM2.out
      obtain ⟨su, hsu⟩ : ∃ su, (addF [] Q').2.getD (k + (A.length - 1)) 0 = su := ⟨_, rfl⟩
      rw [hsu] at C3
      have HNX := Lib.hid fun (W w6 w7 : World) (vn' vb' v7 : Value) (vs' : List (Value × Value)) => MkS.nextP (W := W) (w6 := w6) (w7 := w7) (vn' := vn') (vb' := vb') (v7 := v7) (vs' := vs') hS.out hU2 (by omega) (by omega : k + (A.length - 1) < Q'.length) st3 hsu
      have HSL : Hid ((osT (A.length - 1) k).length = k) := Lib.hid (osT_len _ _)
      have HSN : Hid (osT (A.length - 1) k ++ [k + (A.length - 1)] = osT (A.length - 1) (k + 1)) := Lib.hid (osT_succ _ _).symm
      have HQQ := Lib.hid hQ'
      have OWNP := Lib.hid hS.out.ol
      rw [HSL.out] at OWNP
      have hbd : Hid (RowKit.Below wr.heap.size wr wr.drew) := Lib.hid (below_drewN (RowKit.Below.refl _ _) 1)
      have lL1 := block_of_cell k1.out
      have lG1 := block_of_cell kg.out
      have HS8 : Hid (∀ W, RowKit.Below wr.heap.size wr W → W.cell? ⟨w1.heap.size, 0, none⟩ = some (.slice ar1 nr1 cr1) ∧ W.cell? ⟨w.heap.size + 1, 0, none⟩ = some (.slice (some ⟨bG, offG, none⟩) G.length cb) ∧ W.cell? ⟨bG, offG + k * 2, none⟩ = some (.slice as1 ns1 cs1)) := Lib.hid (fun W hW => ⟨(bcell hW _ _ lL1).trans k1.out, (bcell hW _ _ lG1).trans kg.out, (bcell hW _ _ hbGw).trans g1⟩)
      have HS9 : Hid (∀ W, RowKit.Below wr.heap.size wr W → W.cell? ⟨w1.heap.size, 1, none⟩ = some (.slice ar2 nr2 cr2) ∧ W.cell? ⟨w.heap.size + 1, 0, none⟩ = some (.slice (some ⟨bG, offG, none⟩) G.length cb) ∧ W.cell? ⟨bG, offG + k * 2 + 1, none⟩ = some (.slice as2 ns2 cs2)) := Lib.hid (fun W hW => ⟨(bcell hW _ _ lL1).trans k2.out, (bcell hW _ _ lG1).trans kg.out, (bcell hW _ _ hbGw).trans g2⟩)
      have b0 : (0 : Int) ≤ k := by omega
      have b1 : (k : Int) < G.length := by omega
      have kg' := kg.out
      clear e j1 j2 hnd hQ hX hr1 hr2 st1 st2 st3 hU2 hux hnn hAIr hAIt hmL hmR hmx hsu hQ' g1 g2 hbGw
      go_wp2
      go_region_held3 (fun w' : World => w'.cell? ⟨w1.heap.size, 0, none⟩ = some (.slice ar1 nr1 cr1) ∧ w'.cell? ⟨w.heap.size + 1, 0, none⟩ = some (.slice (some ⟨bG, offG, none⟩) G.length cb) ∧ w'.cell? ⟨bG, offG + k * 2, none⟩ = some (.slice as1 ns1 cs1)) (first | exact HS8.out _ hbd.out | exact HS8.out _ HB4 | exact HS8.out _ HB5 | exact HS8.out _ HB6) (first
        | (go_at_call 64; (with_reducible refine (D1.out _ hbd.out).mono ?_); rintro e w4 ⟨b4, c4, rfl, ho4, _, _, hb4⟩; have HB4 : RowKit.Below wr.heap.size wr w4 := hbd.out.trans hb4)
        | (go_at_call 64; (with_reducible refine (E1.out w4 HB4).mono ?_); rintro e w5 ⟨b5, c5, rfl, ho5, _, _, hb5⟩; have HB5 : RowKit.Below wr.heap.size wr w5 := HB4.trans (hb5.mono HB4.size))
        | (refine step_app_ints rfl _ _ rfl (own_only ho4 (Only.of_below (F := fun _ => False) hb5) (fun _ _ => id)) rfl ho5.ints rfl (by rw [upL_len, upL_len]; omega) (by have := hbd.out.size; have := HB5.size; omega) ?_; intro v6 w6 hown6 hgrow6 hat6; have HB6 : RowKit.Below wr.heap.size wr w6 := HB5.grown hgrow6 HB5.size (fun q hq => by have := ho4.lt q hq; have := hbd.out.size; omega)))
      all_goals
        obtain ⟨a6, c6, rfl, ho6⟩ := own_up hown6 HR1.out
        have HO6 := Lib.hid ho6
        have HH6 := Lib.hid HB6
        have hb6d : RowKit.Below wr.heap.size wr w6.drew := HB6.trans ((below_drewN (RowKit.Below.refl w6.heap.size w6) 1).mono HB6.size)
        have HD6 := Lib.hid hb6d
        have zd6 : w6.drew.heap.size = w6.heap.size := rfl
        have z6 := HB6.size
        have hlo6 := fun q hq => (ho6.lt q hq).1
        clear hown6 hgrow6 hat6 ho4 ho5 hb4 hb5 HB4 HB5 HB6 hb6d D1 E1 ho6 HR1 HS8
        go_wp2
        go_region_held3 (fun w' : World => w'.cell? ⟨w1.heap.size, 1, none⟩ = some (.slice ar2 nr2 cr2) ∧ w'.cell? ⟨w.heap.size + 1, 0, none⟩ = some (.slice (some ⟨bG, offG, none⟩) G.length cb) ∧ w'.cell? ⟨bG, offG + k * 2 + 1, none⟩ = some (.slice as2 ns2 cs2)) (first | exact HS9.out _ HD6.out | exact HS9.out _ HB4 | exact HS9.out _ HB5 | exact HS9.out _ HB7) (first
          | (go_at_call 64; (with_reducible refine (D2.out _ HD6.out).mono ?_); rintro e w4 ⟨b4, c4, rfl, ho4, _, _, hb4⟩; have HB4 : RowKit.Below wr.heap.size wr w4 := HD6.out.trans (hb4.mono HD6.out.size))
          | (go_at_call 64; (with_reducible refine (E2.out w4 HB4).mono ?_); rintro e w5 ⟨b5, c5, rfl, ho5, _, _, hb5⟩; have HB5 : RowKit.Below wr.heap.size wr w5 := HB4.trans (hb5.mono HB4.size); have HC5 : RowKit.Below w6.heap.size w6 w5 := (below_drewN (RowKit.Below.refl w6.heap.size w6) 1).trans (RowKit.Below.trans hb4 (hb5.mono (by have := hb4.size; omega))))
          | (refine step_app_ints rfl _ _ rfl (own_only ho4 (Only.of_below (F := fun _ => False) hb5) (fun _ _ => id)) rfl ho5.ints rfl (by rw [upL_len, upL_len]; omega) (by have := HC5.size; have := hb5.size; have := hb4.size; omega) ?_; intro v7 w7 hown7 hgrow7 hat7; have HC7 : RowKit.Below w6.heap.size w6 w7 := HC5.grown hgrow7 HC5.size (fun q hq => by have := ho4.lt q hq; omega); have HB7 : RowKit.Below wr.heap.size wr w7 := HH6.out.trans (HC7.mono HH6.out.size)))
        all_goals
          obtain ⟨a7, c7, rfl, ho7⟩ := own_up hown7 HR2.out
          have HO7 := Lib.hid ho7
          have HI6 := Lib.hid (HO6.out.ints.below HC7 (Nat.le_refl _))
          have HH7 := Lib.hid HB7
          have hC3 := C3.out w7 HB7 (.slice a6 M1.length c6) (.slice a7 M2.length c7) _ _ _ _ (by have := HC7.size; omega) (Nat.le_refl _) HI6.out (ho7.ints)
          have HC3 := Lib.hid hC3
          have HOP := Lib.hid (own_only OWNP.out (Only.of_below (F := fun _ => False) HB7) (fun _ _ => id))
          clear hown7 hgrow7 hat7 ho4 ho5 hb4 hb5 HB4 HB5 HC5 HC7 HB7 D2 E2 ho7 HR2 HS9 hC3 C3
          have hs7 := HH7.out.size
          have OW := Lib.hid fun (W' : World) (ho : Only w7 W' (Foot (w.heap.size + 3) vn vb)) => own_only HOP.out ho (fun g e => by injection e with e; subst e; exact hS.out.fl)
          clear HOP
          go_wp2_with (first
            | (go_at_call 65; refine HC3.out.mono ?_; rintro e w8 ⟨rfl, vn', vb', vs', hK8, ho8, hf8⟩; have OW8 := OW.out _ ho8)
            | (at_builtin; refine wpList_append_own_at _ rfl _ _ 41 rfl (w.heap.size + 3) 3 iI (.int .i64 0) 1 8 Try.underlying41 hiI hzI0 hzI1 hzI2 rfl (by decide) _ _ _ rfl (World.ownsRow.alloc OW8 _) ⟨w8.heap.size, 0, none⟩ 1 1 [.int .i64 (su : Int)] rfl rfl ?ee1 ?ee2 ?ee3 ?ee4 ?ee5 ?_))
          try (case ee1 => exact World.news_of_block (heap_alloc_new _ _))
          try (case ee2 => first | rfl | (intro u hu; simp at hu; subst hu; rfl))
          try (case ee3 => unfold maxLen; omega)
          try (case ee4 => omega)
          try (case ee5 => simp; have := ho8.size; omega)
          intro v9 w9 hown9 hgrow9 hnil9 hat9
          obtain ⟨g9, c9, rfl, HM9, HB9, HO9, hg9⟩ := HNX.out w7 w8 w9 vn' vb' v9 vs' HH7.out hK8 ho8 hf8 (by rw [HSL.out]; exact hown9) (by rw [HSL.out]; exact hgrow9) (by rw [HSL.out]; simpa using hat9)
          rw [HSL.out]
          have K9 : Hid (MkS (w.heap.size + 3) w9 (osP A a G (k + 1)) (osT (A.length - 1) (k + 1)) (List.range A.length) g9 c9 gr cr vn' vb' vs') := Lib.hid (by rw [HQQ.out, ← HSN.out]; exact HM9.out)
          have B9 : Hid (RowKit.Below w.heap.size w w9) := Lib.hid (hbw.out.trans (HB9.out.mono (by omega)))
          have hfar : ∀ q, q < w.heap.size + 3 ∨ q = w1.heap.size → ¬ (Foot (w.heap.size + 3) vn vb q ∨ q = ga) := fun q hq h => by
            have hg := hga.out
            rcases h with h | h
            · rcases hq with hq | hq
              · have := (hS.out.bk.lt _ h).1; omega
              · subst hq; exact hft.out h
            · omega
          have X9 : Hid (BoxAt w9 (w.heap.size + 2) (.slice none 0 0)) := Lib.hid (hx.out.only HO9.out (hfar _ (by omega)))
          have kg9 := Lib.hid ((HO9.out.cell (o := 0) lG1 (hfar _ (by omega))).trans kg.out)
          have k19 := Lib.hid ((HO9.out.cell (o := 0) lL1 (hfar _ (Or.inr rfl))).trans k1.out)
          have k29 := Lib.hid ((HO9.out.cell (o := 1) lL1 (hfar _ (Or.inr rfl))).trans k2.out)
          have hga9 : Hid (w1.heap.size < g9) := Lib.hid (by have := hga.out; have := ho8.size; omega)
          have hft9 : Hid (¬ Foot (w.heap.size + 3) vn' vb' w1.heap.size) := Lib.hid (fun h => hft.out (hf8 _ (by omega) h))
          clear hown9 hgrow9 hnil9 hat9 hK8 ho8 hf8 OW8 HM9 HB9 HO9 hfar HC3 hbw hx hS kg k1 k2 HNX
          go_wp2
          go_roundw
          case rel => exact ⟨k + 1, g9, c9, vn', vb', vs', by omega, by go_num, rfl, K9, B9, X9, kg9, k19, k29, hga9, hft9⟩
          case measure => first | (simp [intOf]; done) | (simp [intOf]; omega)
    · have hke : k = G.length := by omega
      subst hke
      have hpl := HPL.out G.length (Nat.le_refl _)
      have hU := HUND.out G.length
      have hall := osP_all A a G
      obtain ⟨Q, hQ⟩ : ∃ Q, osP A a G G.length = Q := ⟨_, rfl⟩
      rw [hQ] at hS hpl hU hall
      have hown := hS.out.ol
      have hnT := osT_len (A.length - 1) G.length
      rw [hnT] at hown
      obtain ⟨z, hz⟩ : ∃ z, (addF [] Q).2.getD (Q.length - 1) 0 = z := ⟨_, rfl⟩
      have HZ := Lib.hid hz
      have hzl : z < (addF [] Q).1.length := by
        rw [← hz]
        have ha := addF_added [] book_nil Q hU
        obtain ⟨n0, hn0⟩ := lt_get (l := Q) (i := Q.length - 1) (by omega)
        exact get_lt (ha.node _ n0 hn0)
      have hcz : wr.cell? ⟨ga, G.length - 1, none⟩ = some (.int .i64 (z : Int)) := by
        have h1 : (atT Q (osT (A.length - 1) G.length))[G.length - 1]? = some z := by
          have h2 := atT_getD Q (osT (A.length - 1) G.length) (G.length - 1) (by rw [hnT]; omega)
          rw [osT_get _ _ _ (by omega), show G.length - 1 + (A.length - 1) = Q.length - 1 by omega, hz] at h2
          obtain ⟨y, hy⟩ := lt_get (l := atT Q (osT (A.length - 1) G.length)) (i := G.length - 1) (by unfold atT; rw [List.length_map, hnT]; omega)
          rw [List.getD_eq_getElem?_getD, hy] at h2
          rw [hy]
          exact congrArg some h2
        rw [World.ownsRow.cellAt hown (G.length - 1) (by omega), List.getElem?_map, h1]
        rfl
      have hbk := (addF_added [] book_nil Q hU).book
      have hal := (addF_len [] Q).2
      have CF := Lib.hid (form_calls (w.heap.size + 3) (w.heap.size + 3) (addF [] Q).1 vn vb vs (fun g => g = ga ∨ g = gr) z wr hS.out.bk hbk hzl (by simp at hal; omega))
      have HFI : Hid ((fo (addF [] Q).1 z (bOf (addF [] Q).1 z + 1)).2 = formM Q) := Lib.hid (by rw [← hz]; rfl)
      rw [HFI.out] at CF
      obtain ⟨F, hF⟩ : ∃ F, (formM (ordD A a (G.drop 1))).map upN = F := ⟨_, rfl⟩
      rw [hall, hF] at CF
      have HGG := Lib.hid hF
      have hm1 : IntKind.i64.wrap ((G.length : Int) - 1) = (G.length : Int) - 1 := IntWalk.i64_in _ (by omega)
      have hm2 : (0 : Int) ≤ (G.length : Int) - 1 := by omega
      have hm3 : (G.length : Int) - 1 < G.length := by omega
      have hm4 : ((G.length : Int) - 1).toNat = G.length - 1 := by omega
      have hbs := hbw.out.size
      have hlt1 := block_of_cell hx.out.1
      have kg' := kg.out
      clear hz hzl hbk hal hown hS hQ hF hnT hpl hU hall
      go_wp2_with fail
      refine CF.out.mono ?_
      rintro e w5 ⟨v, rfl, hn5, hb5⟩
      obtain ⟨d5, z5⟩ := hx.out.below hb5
      have HB5 : Hid (RowKit.Below w.heap.size w (w5.setCell ⟨w.heap.size + 2, 0, none⟩ v)) := Lib.hid ((hbw.out.trans (hb5.mono hbs)).setCell (by show w.heap.size ≤ w.heap.size + 2; omega) _)
      have HN : Hid (NodesZ (w5.setCell ⟨w.heap.size + 2, 0, none⟩ v) w.heap.size (w5.setCell ⟨w.heap.size + 2, 0, none⟩ v).heap.size v F) := Lib.hid ((NodesZ.keep hn5 (fun b o h1 h2 => World.cell?_setCell_other _ _ _ _ (fun e => by injection e with e _ _; omega))).wide hbs (by simp))
      have hcr := World.cell?_setCell_same w5 ⟨w.heap.size + 2, 0, none⟩ v d5
      obtain ⟨av, cv, rfl, _⟩ := (show ∃ a c, v = .slice a F.length c ∧ True from by obtain ⟨a, c, e, _⟩ := hn5; exact ⟨a, c, e, trivial⟩)
      clear hn5 hb5 CF hx hbw
      go_wp2_with fail
      refine bodyPost_ret (v := .agg #[.slice av F.length cv]) (by simp [results, Try.results30, go_sem, hcr]) rfl ?_
      rw [HGG.out]
      exact ⟨_, rfl, HN.out, HB5.out⟩
end

section
open Go.RowKit
set_option linter.unusedVariables false
set_option linter.unusedSimpArgs false

set_option maxRecDepth 100000 in
set_option maxHeartbeats 2000000 in
theorem ordS_calls (va vb : Value) (f g h : List Nz) (ok : Bool) (hok : Hid (ordOk f g = ok)) (hv : Hid (ordV f g = h)) (w : World) (lo hi lo' hi' : Nat) (hh : hi ≤ w.heap.size) (hh' : hi' ≤ w.heap.size) (hva : NodesZ w lo hi va f) (hvb : NodesZ w lo' hi' vb g) :
    Calls Try.prog 8 #[.agg #[va], .agg #[vb]] w fun e w' => ∃ a c, e = .returned (.tuple #[.agg #[.slice a h.length c], .bool ok]) ∧ NodesZ w' w.heap.size w'.heap.size (.slice a h.length c) h ∧ Below w.heap.size w w' := by
  have HB0 := Lib.hid fun o o' o'' => show Below w.heap.size w (((w.alloc o).alloc o').alloc o'') from (((Below.refl _ _).alloc (Nat.le_refl _) _).alloc (by simp) _).alloc (by simp; omega) _
  obtain ⟨r, hr⟩ : ∃ r, pairB f g = r := ⟨_, rfl⟩
  have CG := Lib.hid fun (W : World) (hW : Below w.heap.size w W) => l5Pair_calls va vb f g r (Lib.hid hr) W lo hi lo' hi' (Nat.le_trans hh hW.size) (Nat.le_trans hh' hW.size) (hva.below hW hh) (hvb.below hW hh')
  have HVA := Lib.hid fun (W : World) (hW : Below w.heap.size w W) => hva.below hW hh
  have HVB := Lib.hid fun (W : World) (hW : Below w.heap.size w W) => hvb.below hW hh'
  obtain ⟨aa, ca, rfl⟩ := slice_form hva
  obtain ⟨ab, cb, rfl⟩ := slice_form hvb
  clear hva hvb
  go_enter Try.func8, Try.ntmps8
  go_wp2_with fail
  refine (CG.out _ (HB0.out _ _ _)).mono ?_
  rintro e w4 ⟨rfl, hb4⟩
  have k1 : w4.cell? ⟨w.heap.size, 0, none⟩ = some (.slice aa f.length ca) := (bcell hb4 _ _ (by simp; omega)).trans (by go_simp)
  have k2 : w4.cell? ⟨w.heap.size + 1, 0, none⟩ = some (.slice ab g.length cb) := (bcell hb4 _ _ (by first | (simp; done) | (simp; omega))).trans (by go_simp)
  obtain ⟨d0, z0⟩ : BoxAt w4 (w.heap.size + 1 + 1) (.slice none 0 0) := BoxAt.below ⟨by go_simp, by go_simp⟩ hb4
  have HB4 := Lib.hid (Below.trans (HB0.out _ _ _) (hb4.mono (by simp; omega)))
  have hlt := block_of_cell d0
  clear hb4 CG
  cases r with
  | false =>
    obtain rfl : h = [] := by rw [← hv.out, ordV_no hr]
    obtain rfl : ok = false := by rw [← hok.out, ordOk_no hr]
    have B4 := Lib.hid (HB4.out.setCell (p := ⟨w.heap.size + 1 + 1, 0, none⟩) (by show w.heap.size ≤ w.heap.size + 1 + 1; omega) (.slice none 0 0))
    have hcr := World.cell?_setCell_same w4 ⟨w.heap.size + 1 + 1, 0, none⟩ (.slice none 0 0) d0
    go_wp2_with fail
    exact bodyPost_ret (v := .tuple #[.agg #[.slice none 0 0], .bool false]) (by simp [results, Try.results8, go_sem, hcr]) rfl ⟨none, 0, rfl, (OwnF.nil _ _).nodesZ.wide (Nat.le_refl _) (Nat.le_refl _), B4.out⟩
  | true =>
    obtain ⟨hp1, hp2, hp3⟩ := (pairB_iff f g).1 hr
    obtain ⟨eA, uA, sA, pA, lA, mA⟩ := good_parts hp1
    obtain ⟨eB, uB, sB, pB, lB, mB⟩ := good_parts hp2
    have nA : (f.map downN).length = f.length := by simp
    have nB : (g.map downN).length = g.length := by simp
    obtain ⟨x, hxA, hxx⟩ : ∃ x, (f.map downN)[(f.map downN).length - 1]? = some x ∧ downN (f.getD (f.length - 1) ([], [])) = x := by
      obtain ⟨y, hy⟩ := lt_get (l := f) (i := f.length - 1) (by omega)
      refine ⟨downN y, by rw [nA, List.getElem?_map, hy]; rfl, ?_⟩
      rw [List.getD_eq_getElem?_getD, hy]
      rfl
    have CN := Lib.hid fun (W : World) (hW : Below w.heap.size w W) => l5Ordinal_calls (f.map downN) (g.map downN) x aa ab ca cb W lo hi lo' hi' (Nat.le_trans hh hW.size) (Nat.le_trans hh' hW.size) (by rw [nA, eA]; exact HVA.out W hW) (by rw [nB, eB]; exact HVB.out W hW) (by omega) (by omega) (by omega) hxA uA uB mA mB
    obtain ⟨G, hG⟩ : ∃ G, (formM (ordP f g)).map upN = G := ⟨_, rfl⟩
    have HOK : Hid (fitsB G = ok) := Lib.hid (by rw [← hG, ← fitsN_B, ← ordOk_yes hr]; exact hok.out)
    have HH : Hid (h = if ok then G else []) := Lib.hid (by
      rw [← hv.out, ordV_yes hr]
      have := ordOk_yes hr
      rw [hok.out] at this
      cases ok with
      | true => rw [outV_yes this.symm, hG]; rfl
      | false => rw [outV_no this.symm]; rfl)
    rw [nA, nB, show ordD (f.map downN) x ((g.map downN).drop 1) = ordP f g from by unfold ordP; rw [hxx], hG] at CN
    have CF := Lib.hid fun (W : World) (v : Value) (lo hi : Nat) (hhi : hi ≤ W.heap.size) (hz : NodesZ W lo hi v G) => l3If_calls v G ok HOK W lo hi hhi hz
    clear eA uA sA eB uB sB mA mB hok hv hr hp1 hp2 nA nB hG hxA hxx
    go_wp2_with fail
    refine (CN.out _ HB4.out).mono ?_
    rintro e w5 ⟨v5, rfl, hz5, hb5⟩
    have C2 := Lib.hid (CF.out w5 v5 _ _ (Nat.le_refl _) hz5)
    have HB5 := Lib.hid (HB4.out.trans (hb5.mono HB4.out.size))
    have hx5 : BoxAt w5 (w.heap.size + 1 + 1) (.slice none 0 0) := BoxAt.below ⟨d0, z0⟩ hb5
    have hs5 := HB5.out.size
    have hl5 := hb5.size
    have HZ5 := Lib.hid hz5
    clear hz5 hb5 CN CF
    go_wp2_with fail
    refine C2.out.mono ?_
    rintro e w6 ⟨rfl, hb6⟩
    obtain ⟨d6, z6⟩ : BoxAt w6 (w.heap.size + 1 + 1) (.slice none 0 0) := BoxAt.below hx5 hb6
    obtain ⟨u, hu⟩ : ∃ u, (if ok = true then v5 else Value.slice none 0 0) = u := ⟨_, rfl⟩
    have HO : Hid (NodesZ (w6.setCell ⟨w.heap.size + 1 + 1, 0, none⟩ u) w.heap.size (w6.setCell ⟨w.heap.size + 1 + 1, 0, none⟩ u).heap.size u h) := Lib.hid (by
      rw [HH.out, ← hu]
      cases ok with
      | false => exact (OwnF.nil _ _).nodesZ.wide (Nat.le_refl _) (Nat.le_refl _)
      | true => exact ((HZ5.out.below hb6 (Nat.le_refl _)).keep (fun b o h1 h2 => World.cell?_setCell_other _ _ _ _ (fun e => by injection e with e _ _; omega))).wide (by omega) (by simp; exact hb6.size))
    have HB6 : Hid (Below w.heap.size w (w6.setCell ⟨w.heap.size + 1 + 1, 0, none⟩ u)) := Lib.hid ((HB5.out.trans (hb6.mono hs5)).setCell (by show w.heap.size ≤ w.heap.size + 1 + 1; omega) _)
    obtain ⟨au, cu, rfl⟩ := slice_form HO.out
    rw [hu]
    have hcr := World.cell?_setCell_same w6 ⟨w.heap.size + 1 + 1, 0, none⟩ (.slice au h.length cu) d6
    clear hb6 hx5 C2 hu
    go_wp2_with fail
    exact bodyPost_ret (v := .tuple #[.agg #[.slice au h.length cu], .bool ok]) (by simp [results, Try.results8, go_sem, hcr]) rfl ⟨au, cu, rfl, HO.out, HB6.out⟩
end

section
open Go.RowKit
set_option linter.unusedVariables false
set_option linter.unusedSimpArgs false

/-- the cells of a row of nodes -/
theorem nodes_vals {w : World} {lo hi : Nat} {v : Value} {f : List Nz} (h : NodesZ w lo hi v f) (h0 : 0 < f.length) :
    ∃ (b off c : Nat) (vs : List (Value × Value)), v = .slice (some ⟨b, off, none⟩) f.length c ∧ b < hi ∧ vs.length = f.length ∧ (∀ j u, (rowN2 vs)[j]? = some u → w.cell? ⟨b, off + j, none⟩ = some u) ∧ (∀ u ∈ rowN2 vs, u.oneCell' = true) ∧
      (∀ (j : Nat) (nd : Nz) (p : Value × Value), f[j]? = some nd → vs[j]? = some p → IntsZ w lo hi p.1 nd.1 ∧ IntsZ w lo hi p.2 nd.2) := by
  obtain ⟨ao, c, rfl, _, hn⟩ := h
  obtain ⟨nd0, hnd0⟩ := lt_get h0
  obtain ⟨b, off, _, _, rfl, _, hb, _⟩ := hn 0 nd0 hnd0
  have one : ∀ {u : Value} {l : List Int}, IntsZ w lo hi u l → u.oneCell' = true := fun h => by
    obtain ⟨_, _, rfl, _⟩ := h
    rfl
  have key : ∀ m, m ≤ f.length → ∃ vs : List (Value × Value), vs.length = m ∧ (∀ j u, (rowN2 vs)[j]? = some u → w.cell? ⟨b, off + j, none⟩ = some u) ∧ (∀ u ∈ rowN2 vs, u.oneCell' = true) ∧
      (∀ (j : Nat) (nd : Nz) (p : Value × Value), f[j]? = some nd → vs[j]? = some p → IntsZ w lo hi p.1 nd.1 ∧ IntsZ w lo hi p.2 nd.2) := fun m => by
    induction m with
    | zero => exact fun _ => ⟨[], rfl, fun j u hj => by simp [rowN2] at hj, fun u hu => by simp [rowN2] at hu, fun j nd p _ hp => by simp at hp⟩
    | succ m ih =>
      intro hm
      obtain ⟨vs, h1, h2, h3, h4⟩ := ih (by omega)
      obtain ⟨nd, hnd⟩ := lt_get (l := f) (i := m) (by omega)
      obtain ⟨b', off', v1, v2, e', _, _, c1, c2, i1, i2⟩ := hn m nd hnd
      injection e' with e'
      injection e' with e1 e2 _
      subst e1 e2
      have hl := rowN2_len vs
      refine ⟨vs ++ [(v1, v2)], by simp [h1], fun j u hj => ?_, fun u hu => ?_, fun j nd' p hj hp => ?_⟩
      · rw [rowN2_snoc] at hj
        rcases Nat.lt_or_ge j (rowN2 vs).length with hlt | hge
        · rw [List.getElem?_append_left hlt] at hj
          exact h2 j u hj
        · rw [List.getElem?_append_right hge] at hj
          rcases (show j - (rowN2 vs).length = 0 ∨ j - (rowN2 vs).length = 1 ∨ 2 ≤ j - (rowN2 vs).length by omega) with e | e | e
          · rw [e] at hj
            simp at hj
            subst hj
            rw [show off + j = off + m * 2 by omega]
            exact c1
          · rw [e] at hj
            simp at hj
            subst hj
            rw [show off + j = off + m * 2 + 1 by omega]
            exact c2
          · rw [List.getElem?_eq_none (by simpa using e)] at hj
            cases hj
      · rw [rowN2_snoc, List.mem_append] at hu
        rcases hu with hu | hu
        · exact h3 u hu
        · simp at hu
          rcases hu with rfl | rfl
          · exact one i1
          · exact one i2
      · rcases Nat.lt_or_ge j vs.length with hlt | hge
        · rw [List.getElem?_append_left hlt] at hp
          exact h4 j nd' p hj hp
        · rw [List.getElem?_append_right hge] at hp
          have hj0 : j = vs.length := by
            have := get_lt hp
            simp at this
            omega
          subst hj0
          simp at hp
          subst hp
          rw [h1] at hj
          rw [hnd] at hj
          injection hj with hj
          subst hj
          exact ⟨i1, i2⟩
  obtain ⟨vs, h1, h2, h3, h4⟩ := key f.length (Nat.le_refl _)
  exact ⟨b, off, c, vs, rfl, hb, h1, h2, h3, h4⟩

set_option maxRecDepth 100000 in
set_option maxHeartbeats 4000000 in
/-- slices.Clone of nodes -/
theorem cloneN_calls (v : Value) (f : List Nz) (w : World) (lo hi : Nat) (hh : hi ≤ w.heap.size) (hv : NodesZ w lo hi v f) (h0 : 0 < f.length) (hl : f.length ≤ 100000) :
    Calls Try.prog 33 #[v] w fun e w' => ∃ g c vs, e = .returned (.slice (some ⟨g, 0, none⟩) f.length c) ∧ PileZ w' w.heap.size (.slice (some ⟨g, 0, none⟩) f.length c) vs f (fun _ => False) ∧ Below w.heap.size w w' := by
  obtain ⟨iN, hiN, hzN0, hzN1, hzN2⟩ := info_parts infoNodeA
  obtain ⟨b, off, c, vs, rfl, hb, h1, h2, h3, h4⟩ := nodes_vals hv h0
  have hB0 : Below w.heap.size w (w.alloc (.cells #[] 57)) := (Below.refl _ _).alloc (Nat.le_refl _) _
  have HO0 : Hid ((w.alloc (.cells #[] 57)).ownsRow w.heap.size 57 2 (.slice (some ⟨w.heap.size, 0, none⟩) 0 0) 0 []) := Lib.hid (World.ownsRow_lit w #[] 0 (Nat.le_refl _) (by unfold maxLen; omega) rfl)
  have HB0 := Lib.hid hB0
  have HC : Hid (∀ j u, (rowN2 vs)[j]? = some u → (w.alloc (.cells #[] 57)).cell? ((⟨b, off, none⟩ : Addr).add j) = some u) := Lib.hid (fun j u hj => by
    rw [add_addrC]
    exact (bcell hB0 b (off + j) (by omega)).trans (h2 j u hj))
  have HL : Hid ((rowN2 vs).length = f.length * 2) := Lib.hid (by rw [rowN2_len, h1])
  have H3 := Lib.hid h3
  have H4 := Lib.hid h4
  have H1 := Lib.hid h1
  have he : ∀ W : World, (binOp .eql 26 (.slice (some ⟨b, off, none⟩) f.length c) (.slice none 0 0)).run Try.prog W = .ok (.bool false) W := fun _ => rfl
  clear hv h1 h2 h3 h4 hB0
  go_enter Try.func33, Try.ntmps33
  go_wp2_with (at_builtin; refine wpList_append_own_at _ rfl _ _ 26 rfl w.heap.size 57 iN (.agg #[.slice none 0 0, .slice none 0 0]) 2 48 Try.underlying26 hiN hzN0 hzN1 hzN2 rfl (by decide) _ _ _ rfl HO0.out ⟨b, off, none⟩ f.length c (rowN2 vs) rfl HL.out HC.out H3.out (by unfold maxLen; omega) (by omega) (by simp) ?_; intro v7 w7 hown7 hgrow7 hnil7 hat7)
  rw [Nat.zero_add, List.nil_append] at hown7
  obtain ⟨g7, c7, rfl, _, _⟩ := hown7.form (by omega)
  have HB7 := Lib.hid (HB0.out.grown hgrow7 HB0.out.size (fun q hq => by have := own_eqp hq; omega))
  have hg7 := (World.ownsRow.lt hown7 g7 rfl).1
  have HP : Hid (PileZ w7 w.heap.size (.slice (some ⟨g7, 0, none⟩) f.length c7) vs f (fun _ => False)) := Lib.hid ⟨hown7, H1.out, fun j nd p hj hp => by
    obtain ⟨i1, i2⟩ := H4.out j nd p hj hp
    have hx : ∀ g, PX (.slice (some ⟨g7, 0, none⟩) f.length c7) (fun _ => False) g → g < lo ∨ hi ≤ g := fun g hg => by
      rcases hg with hg | hg
      · have := own_eqp hg; omega
      · exact hg.elim
    exact ⟨⟨lo, hi, Nat.le_trans hh HB7.out.size, hx, i1.below HB7.out hh⟩, ⟨lo, hi, Nat.le_trans hh HB7.out.size, hx, i2.below HB7.out hh⟩⟩⟩
  clear hown7 hgrow7 hnil7 hat7
  go_wp2
  go_ret
  exact ⟨g7, c7, vs, rfl, HP.out, HB7.out⟩

set_option maxRecDepth 100000 in
/-- an append of nodes leaves the cells of the row that was -/
theorem run_append_nd_keep (w : World) (base : Nat) (ty : TypeId) (g n cap : Nat) (xs : List Value) (hown : w.ownsRow base 57 2 (.slice (some ⟨g, 0, none⟩) n cap) n xs) (y : Value) (m : Nat) (news : List Value) (hsrc : SrcN w y m news) (hsmall : n + m ≤ 3000000) (hbase : base ≤ w.heap.size) :
    ∃ v' w', (Builtin.append_ #[26, 26] ty #[.slice (some ⟨g, 0, none⟩) n cap, y]).run Try.prog w = .ok v' w' ∧ w'.ownsRow base 57 2 v' (n + m) (xs ++ news) ∧ w.grownBy w' (Value.slice (some ⟨g, 0, none⟩) n cap).ownBlock ∧ (v'.ownBlock = (Value.slice (some ⟨g, 0, none⟩) n cap).ownBlock ∨ v'.ownBlock = some w.heap.size) ∧
      (∀ j, j < n * 2 → w'.cell? ⟨g, j, none⟩ = w.cell? ⟨g, j, none⟩) := by
  obtain ⟨i0, hi0, hz0, hz1, hz2⟩ := info_parts infoNodeA
  obtain ⟨hl, h1, ad, c, rfl, hc⟩ := hsrc
  obtain ⟨v', w', hr, h2, h3, _, h5⟩ := run_append_own_at (P := Try.prog) w base 26 ty 57 i0 (.agg #[.slice none 0 0, .slice none 0 0]) 2 48 Try.underlying26 hi0 hz0 hz1 hz2 rfl (by decide) (.slice (some ⟨g, 0, none⟩) n cap) n xs hown ad m c news (by rw [hl]) hc h1 (by unfold maxLen; omega) (by omega) hbase
  refine ⟨v', w', hr, h2, h3, h5, fun j hj => ?_⟩
  have hgl := (World.ownsRow.lt hown g rfl).2
  have hlen := hown.1
  by_cases hroom : n + m ≤ cap
  · rcases hown.2 with ⟨h, _⟩ | ⟨g', cap', cur, e', hbg, hg, hn, hcm, hcs, htake⟩
    · cases h
    · injection e' with e1 _ e3
      injection e1 with e1
      injection e1 with e1
      subst e1 e3
      have hr2 := run_append_room (P := Try.prog) w 26 ty 57 i0 Try.underlying26 hi0 g n cap cur hg ad m c news (by rw [hl, hz1]) hc h1 hroom (by rw [hl, hz1, hcs, ← Nat.add_mul]; exact Nat.mul_le_mul_right _ hroom)
      rw [hr] at hr2
      injection hr2 with hv _
      subst hv
      rw [World.ownsRow.cellAt h2 j (by omega), World.ownsRow.cellAt hown j hj, List.getElem?_append_left (by omega)]
  · have hcells : ∀ j u, xs[j]? = some u → w.cell? ((⟨g, 0, none⟩ : Addr).add j) = some u := hown.cells (g := g) rfl
    obtain ⟨v2, w2, hr2, _, hgr⟩ := run_append_arg_grows (P := Try.prog) w 26 ty 57 i0 (.agg #[.slice none 0 0, .slice none 0 0]) 2 48 Try.underlying26 hi0 hz0 hz1 hz2 rfl (by decide) ⟨g, 0, none⟩ n cap xs hlen hcells ad m c news (by rw [hl]) hc (by omega) (by unfold maxLen; omega) (by omega)
    rw [hr] at hr2
    injection hr2 with hv hw
    subst hw
    exact (Only.of_grown hgr (F := fun _ => False) (fun g e => by cases e)).cell hgl id

theorem step_app_nd_keep {ops : Array Oper} {o : Oper} {a : Act} {w : World} {K : Act → World → Prop} {Q : Exit → Act → World → Prop} {E : Prop} (hgd : o.guard = none) (s x : Operand)
    (ho : o.op = .call { callee := .builtin .append, args := #[s, x], argTypes := #[26, 26] })
    {base g n cap : Nat} {xs : List Value} (hown : w.ownsRow base 57 2 (.slice (some ⟨g, 0, none⟩) n cap) n xs) (hs : a.eval s = .slice (some ⟨g, 0, none⟩) n cap) {y : Value} {m : Nat} {news : List Value} (hsrc : SrcN w y m news) (hx : a.eval x = y)
    (hsmall : n + m ≤ 3000000) (hbase : base ≤ w.heap.size)
    (h : ∀ v' w', w'.ownsRow base 57 2 v' (n + m) (xs ++ news) → w.grownBy w' (Value.slice (some ⟨g, 0, none⟩) n cap).ownBlock → (v'.ownBlock = (Value.slice (some ⟨g, 0, none⟩) n cap).ownBlock ∨ v'.ownBlock = some w.heap.size) → (∀ j, j < n * 2 → w'.cell? ⟨g, j, none⟩ = w.cell? ⟨g, j, none⟩) → K (a.put o.dst v') w') :
    if Region.wanted o (yielded ops a.tmps) = true then Oper.wp Try.prog o a w K Q else E := by
  have hw : Region.wanted o (yielded ops a.tmps) = true := by simp [Region.wanted, hgd]
  rw [if_pos hw]
  obtain ⟨v', w', hr, h2, h3, h5, h6⟩ := run_append_nd_keep w base o.type g n cap xs hown y m news hsrc hsmall hbase
  unfold Oper.wp execOp
  simp only [ho, resolve, invoke, builtin, Sem.run_bind, Sem.run_pure, Result.andThen_ok, List.map_toArray, List.map_cons, List.map_nil, hs, hx, hr]
  exact h v' w' h2 h3 h5 h6
end

section
open Go.RowKit
set_option linter.unusedVariables false
set_option linter.unusedSimpArgs false

/-- two lists put together -/
theorem concat2_calls (b : Nat) (v1 v2 : Value) (L1 L2 M : List Nat) (hM : L1 ++ L2 = M) (w : World) (hb : b < w.heap.size) (h1 : w.cell? ⟨b, 0, none⟩ = some v1) (h2 : w.cell? ⟨b, 1, none⟩ = some v2) (i1 : IntsZ w 0 w.heap.size v1 (upL L1)) (i2 : IntsZ w 0 w.heap.size v2 (upL L2)) (hl : M.length ≤ 10000) :
    Calls Try.prog 34 #[.slice (some ⟨b, 0, none⟩) 2 2] w fun e w' => ∃ a c, e = .returned (.slice a M.length c) ∧ OwnI w' w.heap.size (.slice a M.length c) (upL M) ∧ Below w.heap.size w w' := by
  have e : [upL L1, upL L2].flatten = upL M := by
    rw [← hM]
    simp [upL]
  have el : [upL L1, upL L2].flatten.length = M.length := by rw [e, upL_len]
  have h := concat_calls b [upL L1, upL L2] w hb (fun k l hk => by
    match k, hk with
    | 0, hk => simp at hk; subst hk; exact ⟨v1, h1, i1⟩
    | 1, hk => simp at hk; subst hk; exact ⟨v2, h2, i2⟩) (by simp) (by rw [el]; omega)
  rw [el, e] at h
  exact h

set_option maxRecDepth 100000 in
set_option maxHeartbeats 20000000 in
theorem ordI_calls (va vb : Value) (f g out : List Nz) (ok : Bool) (hok : Hid (ordOk f g = ok)) (hv : Hid (ordV f g = out)) (w : World) (lo hi lo' hi' : Nat) (hh : hi ≤ w.heap.size) (hh' : hi' ≤ w.heap.size) (hva : NodesZ w lo hi va f) (hvb : NodesZ w lo' hi' vb g) :
    Calls Try.prog 10 #[.agg #[va], .agg #[vb]] w fun e w' => ∃ a c vs, e = .returned (.tuple #[.agg #[.slice a out.length c], .bool ok]) ∧ OwnF w' w.heap.size (.slice a out.length c) vs out ∧ Below w.heap.size w w' := by
  have HB0 := Lib.hid fun o o' o'' => show Below w.heap.size w (((w.alloc o).alloc o').alloc o'') from (((Below.refl _ _).alloc (Nat.le_refl _) _).alloc (by simp) _).alloc (by simp; omega) _
  obtain ⟨r, hr⟩ : ∃ r, pairB f g = r := ⟨_, rfl⟩
  have CG := Lib.hid fun (W : World) (hW : Below w.heap.size w W) => goodPair_calls va vb f g r (Lib.hid hr) W lo hi lo' hi' (Nat.le_trans hh hW.size) (Nat.le_trans hh' hW.size) (hva.below hW hh) (hvb.below hW hh')
  have HVA := Lib.hid fun (W : World) (hW : Below w.heap.size w W) => hva.below hW hh
  have HVB := Lib.hid fun (W : World) (hW : Below w.heap.size w W) => hvb.below hW hh'
  obtain ⟨aa, ca, rfl⟩ : ∃ ao c, va = .slice ao f.length c := by obtain ⟨ao, c, e, _⟩ := hva; exact ⟨ao, c, e⟩
  obtain ⟨ab, cb, rfl⟩ : ∃ ao c, vb = .slice ao g.length c := by obtain ⟨ao, c, e, _⟩ := hvb; exact ⟨ao, c, e⟩
  clear hva hvb
  go_enter Try.func10, Try.ntmps10
  go_wp2_with fail
  refine (CG.out _ (HB0.out _ _ _)).mono ?_
  rintro e w4 ⟨rfl, hb4⟩
  have k1 : w4.cell? ⟨w.heap.size, 0, none⟩ = some (.slice aa f.length ca) := (bcell hb4 _ _ (by simp; omega)).trans (by go_simp)
  have k2 : w4.cell? ⟨w.heap.size + 1, 0, none⟩ = some (.slice ab g.length cb) := (bcell hb4 _ _ (by first | (simp; done) | (simp; omega))).trans (by go_simp)
  obtain ⟨d0, z0⟩ : BoxAt w4 (w.heap.size + 1 + 1) (.slice none 0 0) := BoxAt.below ⟨by go_simp, by go_simp⟩ hb4
  have HB4 := Lib.hid (Below.trans (HB0.out _ _ _) (hb4.mono (by simp; omega)))
  have hlt := block_of_cell d0
  clear hb4 CG
  cases r with
  | false =>
    obtain rfl : out = [] := by rw [← hv.out, ordV_no hr]
    obtain rfl : ok = false := by rw [← hok.out, ordOk_no hr]
    have B4 := Lib.hid (HB4.out.setCell (p := ⟨w.heap.size + 1 + 1, 0, none⟩) (by show w.heap.size ≤ w.heap.size + 1 + 1; omega) (.slice none 0 0))
    have hcr := World.cell?_setCell_same w4 ⟨w.heap.size + 1 + 1, 0, none⟩ (.slice none 0 0) d0
    go_wp2_with fail
    exact bodyPost_ret (v := .tuple #[.agg #[.slice none 0 0], .bool false]) (by simp [results, Try.results10, go_sem, hcr]) rfl ⟨none, 0, [], rfl, OwnF.nil _ _, B4.out⟩
  | true =>
    obtain ⟨hp1, hp2, hp3⟩ := (pairB_iff f g).1 hr
    obtain ⟨eA, uA, sA, pA, lA, mA⟩ := good_parts hp1
    obtain ⟨eB, uB, sB, pB, lB, mB⟩ := good_parts hp2
    have nA : (f.map downN).length = f.length := by simp
    have nB : (g.map downN).length = g.length := by simp
    obtain ⟨x, hxA, hxx⟩ : ∃ x, (f.map downN)[(f.map downN).length - 1]? = some x ∧ downN (f.getD (f.length - 1) ([], [])) = x := by
      obtain ⟨y, hy⟩ := lt_get (l := f) (i := f.length - 1) (by omega)
      refine ⟨downN y, by rw [nA, List.getElem?_map, hy]; rfl, ?_⟩
      rw [List.getD_eq_getElem?_getD, hy]
      rfl
    have hG0 : (g.map downN)[0]? = some ([], []) := by
      obtain ⟨nd, hnd⟩ := lt_get (l := g.map downN) (i := 0) (by omega)
      rw [hnd]
      have hq := uB 0 nd hnd
      have e1 : nd.1 = [] := List.eq_nil_iff_forall_not_mem.2 fun y hy => by have := hq y (Or.inl hy); omega
      have e2 : nd.2 = [] := List.eq_nil_iff_forall_not_mem.2 fun y hy => by have := hq y (Or.inr hy); omega
      exact congrArg some (Prod.ext e1 e2)
    have hPall : osP (f.map downN) x (g.map downN) g.length = ordP f g := by
      have := osP_all (f.map downN) x (g.map downN)
      rw [nB] at this
      rw [this]
      unfold ordP
      rw [hxx]
    have hP1 : osP (f.map downN) x (g.map downN) 1 = f.map downN := osP_one _ _ _ _ hG0
    have hPL : ∀ k, k ≤ g.length → (osP (f.map downN) x (g.map downN) k).length = f.length + (k - 1) := fun k hk => by
      have := osP_len (f.map downN) x (g.map downN) k (by rw [nB]; exact hk)
      rw [nA] at this
      exact this
    have hPX : ∀ k, (osP (f.map downN) x (g.map downN) k)[f.length - 1]? = some x := fun k => by
      unfold osP
      rw [ordD_left (by omega), ← nA]
      exact hxA
    have hsx := mA x (List.mem_of_getElem? hxA)
    have hux := uA _ x hxA
    have hoU : Under (ordP f g) := by rw [← hPall]; exact osP_under uA hxA uB _
    have hoL : (ordP f g).length = f.length + (g.length - 1) := by rw [← hPall]; exact hPL g.length (Nat.le_refl _)
    have hoS : Used (ordP f g) := by
      have := ordD_used sA hxA sB hG0
      unfold ordP
      rw [hxx]
      exact this
    have hoM : ∀ nd ∈ ordP f g, nd.1.length ≤ 1000 ∧ nd.2.length ≤ 1000 := fun nd hnd => by
      unfold ordP ordD at hnd
      rcases List.mem_append.1 hnd with hnd | hnd
      · have := mA nd hnd; omega
      · obtain ⟨y, hy, rfl⟩ := List.mem_map.1 hnd
        have := mB y (List.mem_of_mem_drop hy)
        rw [hxx]
        unfold ordN
        simp
        omega
    have CF := Lib.hid fun (W : World) (v : Value) (hz : NodesZ W 0 W.heap.size v ((ordP f g).map upN)) => formOf_calls v (ordP f g) out ok W 0 W.heap.size (Nat.le_refl _) hz hoU (by rw [hoL]; omega) (fun k hk => reached_used hoU hoS k hk) (by rw [hoL]; omega) hoM (Lib.hid (by rw [← ordOk_yes hr]; exact hok.out)) (Lib.hid (by rw [← ordV_yes hr]; exact hv.out))
    have CC := Lib.hid fun (W : World) (hW : Below w.heap.size w W) => cloneN_calls (.slice aa f.length ca) f W lo hi (Nat.le_trans hh hW.size) (HVA.out W hW) pA (by omega)
    have HPALL := Lib.hid hPall
    have HG0 := Lib.hid hG0
    have HP1 := Lib.hid hP1
    have HPL := Lib.hid hPL
    have HPX := Lib.hid hPX
    have HUX := Lib.hid hux
    have HGB : Hid ((g.map downN).map upN = g) := Lib.hid eB
    have UB := Lib.hid uB
    have MB := Lib.hid mB
    have HEA := Lib.hid eA
    have HPS := Lib.hid fun (k : Nat) (nd : Nd) (h0 : 0 < k) (hk : (g.map downN)[k]? = some nd) => osP_succ (f.map downN) x nd (g.map downN) k h0 hk
    rw [nA] at HPS
    have HNB := Lib.hid nB
    have HS3 : Hid (∀ W, Below w4.heap.size w4 W → W.cell? ⟨w.heap.size, 0, none⟩ = some (.slice aa f.length ca)) := Lib.hid (fun W hW => (bcell hW _ _ (block_of_cell k1)).trans k1)
    have K1 := Lib.hid k1
    have K2 := Lib.hid k2
    have X0 : Hid (BoxAt w4 (w.heap.size + 1 + 1) (.slice none 0 0)) := Lib.hid ⟨d0, z0⟩
    have hbd : Below w4.heap.size w4 w4.drew := below_drewN (Below.refl _ _) 1
    have hbs4 := HB4.out.size
    have hn1 : IntKind.i64.wrap ((f.length - 1 : Nat) : Int) = ((f.length - 1 : Nat) : Int) := IntWalk.i64_in _ (by omega)
    have hn5 : (f.length : Int) - 1 = ((f.length - 1 : Nat) : Int) := by omega
    clear hp1 hp2 hp3 eA uA sA mA eB uB sB mB nB hxA hG0 hPall hP1 hPL hPX hux hoU hoL hoS hoM hok hv d0 z0 k2
    go_wp2
    go_region_held3 (fun w' : World => w'.cell? ⟨w.heap.size, 0, none⟩ = some (.slice aa f.length ca)) (first | exact HS3.out _ hbd | exact HS3.out _ HB5) (first
      | (go_at_call 33; (with_reducible refine (CC.out _ (HB4.out.trans (hbd.mono hbs4))).mono ?_); rintro e w5 ⟨gn, cn, vs, rfl, hp5, hb5⟩; have HB5 : Below w4.heap.size w4 w5 := hbd.trans hb5))
    all_goals
      have HB5' := Lib.hid (HB4.out.trans (HB5.mono hbs4))
      have hpu : PileZ w5 (w.heap.size + 3) (.slice (some ⟨gn, 0, none⟩) f.length cn) vs ((osP (f.map downN) x (g.map downN) 1).map upN) (fun _ => False) := by
        rw [HP1.out, HEA.out]
        exact hp5.mono (by show w.heap.size + 3 ≤ w4.heap.size; omega)
      have HP5 := Lib.hid hpu
      have kb5 := (bcell HB5 _ _ (block_of_cell K2.out)).trans K2.out
      have HX5 := Lib.hid (X0.out.below HB5)
      have q1 : (1 : Int) ≤ g.length := by omega
      have q2 : (g.length : Int) - 1 = ((g.length - 1 : Nat) : Int) := by omega
      clear hp5 hb5 HB5 CC HS3 K1 K2 X0 hbd hpu
      have HVN := Lib.hid fun (W : World) (hW : Below w.heap.size w W) => (by have h := HVB.out W hW; rw [← HGB.out, List.length_map, HNB.out] at h; exact h : NodesZ W lo' hi' (.slice ab g.length cb) ((g.map downN).map upN))
      obtain ⟨bG, offG, cG, _, _, eG, _, _, _, _, _⟩ := nodes_atP (HVN.out w5 HB5'.out) HG0.out
      obtain ⟨e1, e2n, e3⟩ := slice_inj eG
      clear e2n
      subst e1
      have hcap : g.length ≤ cb := by
        obtain ⟨_, _, e, h, _⟩ := HVB.out w5 HB5'.out
        obtain ⟨_, _, e3⟩ := slice_inj e
        omega
      clear eG e3 HVB HGB HEA HP1
      go_wp2
      all_goals
        clear kb5
        go_loopw [6, 26] (fun q i wr => ∃ (k n gn cn : Nat) (vs : List (Value × Value)), k ≤ g.length - 1 ∧ i = .int .i64 k ∧ q = .slice (some ⟨gn, 0, none⟩) n cn ∧ Hid (n = f.length + k) ∧ Hid (PileZ wr (w.heap.size + 3) (.slice (some ⟨gn, 0, none⟩) n cn) vs ((osP (f.map downN) x (g.map downN) (k + 1)).map upN) (fun _ => False)) ∧ Hid (Below w.heap.size w wr) ∧ Hid (BoxAt wr (w.heap.size + 1 + 1) (.slice none 0 0))) (fun _ i _ => g.length - 1 - (intOf i).toNat)
        case atStart => exact ⟨0, f.length, gn, cn, vs, Nat.zero_le _, rfl, rfl, Lib.hid (by omega), HP5, HB5', HX5⟩
        case round =>
          clear HP5 HX5 HB5'
          obtain ⟨k, n, gn, cn, vs, hk, rfl, rfl, hn, hp, hbw, hx⟩ := hrel
          by_cases hlt : k < g.length - 1
          · have hcb : ¬ cb = 1 := by omega
            first | exact absurd ‹cb = 1› hcb | skip
            all_goals
              have hnn := hn.out
              obtain ⟨nd, hnd⟩ := lt_get (l := g.map downN) (i := k + 1) (by rw [HNB.out]; omega)
              obtain ⟨bG', offG', cG', u1, u2, e, hbh, g1, g2, j1, j2⟩ := nodes_atP (HVN.out wr hbw.out) hnd
              obtain ⟨e1, e2n, e3⟩ := slice_inj e
              clear e2n
              injection e1 with e1
              injection e1 with e1 e2
              subst e1 e2
              have hbGw := block_of_cell g1
              obtain ⟨as1, ns1, cs1, hu1⟩ : ∃ a n c, u1 = .slice a n c := by obtain ⟨a, c, e, _⟩ := j1; exact ⟨a, _, c, e⟩
              obtain ⟨as2, ns2, cs2, hu2⟩ : ∃ a n c, u2 = .slice a n c := by obtain ⟨a, c, e, _⟩ := j2; exact ⟨a, _, c, e⟩
              subst hu1 hu2
              have g1' : wr.cell? ⟨bG, offG + 2 + k * 2, none⟩ = some (.slice as1 ns1 cs1) := by rw [show offG + 2 + k * 2 = offG + (k + 1) * 2 by omega]; exact g1
              have g2' : wr.cell? ⟨bG, offG + 2 + k * 2 + 1, none⟩ = some (.slice as2 ns2 cs2) := by rw [show offG + 2 + k * 2 + 1 = offG + (k + 1) * 2 + 1 by omega]; exact g2
              have hmm := MB.out nd (List.mem_of_getElem? hnd)
              have hub := UB.out (k + 1) nd hnd
              have hps := HPS.out (k + 1) nd (by omega) hnd
              have hpl := HPL.out (k + 1) (by omega)
              have hpx := HPX.out (k + 1)
              have hux := HUX.out
              obtain ⟨P, hP⟩ : ∃ P, osP (f.map downN) x (g.map downN) (k + 1) = P := ⟨_, rfl⟩
              rw [hP] at hp hps hpl hpx
              have HLEN : Hid ((P.map upN).length = n) := Lib.hid (by rw [List.length_map]; omega)
              obtain ⟨p, hpp⟩ := lt_get (l := vs) (i := f.length - 1) (by rw [hp.out.len, HLEN.out]; omega)
              obtain ⟨iv1, iv2⟩ := hp.out.list (f.length - 1) (upN x) p (by rw [List.getElem?_map, hpx]; rfl) hpp
              obtain ⟨p1, p2⟩ := p
              have hi1 := iv1.ints
              have hi2 := iv2.ints
              obtain ⟨ap1, np1, cp1, hpp1⟩ : ∃ a n c, p1 = .slice a n c := by obtain ⟨a, c, e, _⟩ := hi1; exact ⟨a, _, c, e⟩
              obtain ⟨ap2, np2, cp2, hpp2⟩ : ∃ a n c, p2 = .slice a n c := by obtain ⟨a, c, e, _⟩ := hi2; exact ⟨a, _, c, e⟩
              subst hpp1 hpp2
              have hrat := rowN2_at vs (f.length - 1) _ hpp
              have hrow := hp.out.row
              rw [HLEN.out] at hrow
              have c1 := (World.ownsRow.cellAt hrow ((f.length - 1) * 2) (by omega)).trans hrat.1
              have c2 := (World.ownsRow.cellAt hrow ((f.length - 1) * 2 + 1) (by omega)).trans hrat.2
              have hgn := (World.ownsRow.lt hrow gn rfl)
              have hba : Below wr.heap.size wr (wr.alloc (.cells #[.slice as1 ns1 cs1, .slice as2 ns2 cs2] 57)) := (Below.refl _ _).alloc (Nat.le_refl _) _
              have hza : wr.heap.size < (wr.alloc (.cells #[.slice as1 ns1 cs1, .slice as2 ns2 cs2] 57)).heap.size := by simp
              have c3 : (wr.alloc (.cells #[.slice as1 ns1 cs1, .slice as2 ns2 cs2] 57)).cell? ⟨wr.heap.size, 0, none⟩ = some (.slice as1 ns1 cs1) := by go_simp
              have c4 : (wr.alloc (.cells #[.slice as1 ns1 cs1, .slice as2 ns2 cs2] 57)).cell? ⟨wr.heap.size, 1, none⟩ = some (.slice as2 ns2 cs2) := by go_simp
              have hb0 : (0 : Int) ≤ k := by omega
              have hb1 : (k : Int) < ((g.length - 1 : Nat) : Int) := by omega
              have hf0 : (0 : Int) ≤ ((f.length - 1 : Nat) : Int) := by omega
              have hf1 : ((f.length - 1 : Nat) : Int) < n := by omega
              obtain ⟨Y, hY⟩ : ∃ Y, ordN (f.length - 1) x nd = Y := ⟨_, rfl⟩
              have hY1 : x.1 ++ nd.1.map (· + (f.length - 1)) = Y.1 := by rw [← hY]; rfl
              have hY2 : x.2 ++ nd.2.map (· + (f.length - 1)) = Y.2 := by rw [← hY]; rfl
              have hl1 : Y.1.length ≤ 10000 := by rw [← hY1]; simp; omega
              have hl2 : Y.2.length ≤ 10000 := by rw [← hY2]; simp; omega
              have HI1 := Lib.hid hi1
              have HI2 := Lib.hid hi2
              have hwsz := hbw.out.size
              have D1 := Lib.hid fun (W : World) (hW : Below wr.heap.size wr W) => shifted_calls (.slice as1 ns1 cs1) nd.1 (f.length - 1) W lo' hi' (by have := hW.size; omega) (j1.below hW (by omega)) (by omega) (fun y hy => by have := hub y (Or.inl hy); omega)
              have D2 := Lib.hid fun (W : World) (hW : Below wr.heap.size wr W) => shifted_calls (.slice as2 ns2 cs2) nd.2 (f.length - 1) W lo' hi' (by have := hW.size; omega) (j2.below hW (by omega)) (by omega) (fun y hy => by have := hub y (Or.inr hy); omega)
              have E1 := Lib.hid fun (W : World) (hW : Below wr.heap.size wr W) (b : Nat) (v2 : Value) (hb : b < W.heap.size) (h0 : W.cell? ⟨b, 0, none⟩ = some (.slice ap1 np1 cp1)) (h1 : W.cell? ⟨b, 1, none⟩ = some v2) (i2 : IntsZ W 0 W.heap.size v2 (upL (nd.1.map (· + (f.length - 1))))) => concat2_calls b (.slice ap1 np1 cp1) v2 x.1 _ Y.1 hY1 W hb h0 h1 ((hi1.below hW (Nat.le_refl _)).wide (Nat.le_refl _) hW.size) i2 hl1
              have E2 := Lib.hid fun (W : World) (hW : Below wr.heap.size wr W) (b : Nat) (v2 : Value) (hb : b < W.heap.size) (h0 : W.cell? ⟨b, 0, none⟩ = some (.slice ap2 np2 cp2)) (h1 : W.cell? ⟨b, 1, none⟩ = some v2) (i2 : IntsZ W 0 W.heap.size v2 (upL (nd.2.map (· + (f.length - 1))))) => concat2_calls b (.slice ap2 np2 cp2) v2 x.2 _ Y.2 hY2 W hb h0 h1 ((hi2.below hW (Nat.le_refl _)).wide (Nat.le_refl _) hW.size) i2 hl2
              have HRO := Lib.hid fun (W : World) (hW : Below wr.heap.size wr W) => own_only hrow (Only.of_below (F := fun _ => False) hW) (fun _ _ => id)
              have HPN : Hid (osP (f.map downN) x (g.map downN) (k + 1 + 1) = P ++ [Y]) := Lib.hid (by rw [hps, hY])
              have HS7 : Hid (∀ W, Below (wr.alloc (.cells #[.slice as1 ns1 cs1, .slice as2 ns2 cs2] 57)).heap.size (wr.alloc (.cells #[.slice as1 ns1 cs1, .slice as2 ns2 cs2] 57)) W → W.cell? ⟨gn, (f.length - 1) * 2, none⟩ = some (.slice ap1 np1 cp1) ∧ W.cell? ⟨gn, (f.length - 1) * 2 + 1, none⟩ = some (.slice ap2 np2 cp2) ∧ W.cell? ⟨wr.heap.size, 0, none⟩ = some (.slice as1 ns1 cs1) ∧ W.cell? ⟨wr.heap.size, 1, none⟩ = some (.slice as2 ns2 cs2)) := Lib.hid (fun W hW => ⟨(bcell hW gn _ (by omega)).trans ((bcell hba gn _ hgn.2).trans c1), (bcell hW gn _ (by omega)).trans ((bcell hba gn _ hgn.2).trans c2), (bcell hW _ _ hza).trans c3, (bcell hW _ _ hza).trans c4⟩)
              have HBA := Lib.hid hba
              clear e e3 j1 j2 hnd hub hps hpl hpx hux hP hpp iv1 iv2 hi1 hi2 hrat hY hY1 hY2 hl1 hl2 c1 c2 c3 c4 hrow hba hmm g1 g2 hbGw
              have hN1 : n + 1 ≤ 3000000 := by omega
              have hN2 : (f.length - 1) * 2 + 1 < n * 2 := by omega
              have hfn : ((f.length - 1 : Nat) : Int).toNat = f.length - 1 := by omega
              clear hnn
              go_upto_region 7 with fail
              generalize wr.alloc (.cells #[.slice as1 ns1 cs1, .slice as2 ns2 cs2] 57) = wa at HS7 HBA hza ⊢
              have hbd : Below wa.heap.size wa wa.drew := below_drewN (Below.refl _ _) 1
              have hza' : wr.heap.size ≤ wa.heap.size := by omega
              have VIA : ∀ {W : World}, Below wa.heap.size wa W → Below wr.heap.size wr W := fun h => HBA.out.trans (h.mono hza')
              have AL : ∀ {W : World} (h : Below wa.heap.size wa W) (o : Obj), Below wa.heap.size wa (W.alloc o) := fun h o => h.trans (((Below.refl _ _).alloc (Nat.le_refl _) o).mono h.size)
              go_region_held3 (fun w' : World => w'.cell? ⟨gn, (f.length - 1) * 2, none⟩ = some (.slice ap1 np1 cp1) ∧ w'.cell? ⟨gn, (f.length - 1) * 2 + 1, none⟩ = some (.slice ap2 np2 cp2) ∧ w'.cell? ⟨wr.heap.size, 0, none⟩ = some (.slice as1 ns1 cs1) ∧ w'.cell? ⟨wr.heap.size, 1, none⟩ = some (.slice as2 ns2 cs2)) (first | exact HS7.out _ hbd | exact HS7.out _ HB4 | exact HS7.out _ (AL HB4 _) | exact HS7.out _ HB5 | exact HS7.out _ HB6 | exact HS7.out _ (AL HB6 _) | exact HS7.out _ HB7 | exact HS7.out _ (AL HB7 _) | exact HS9) (first
                | (go_at_call 35; (with_reducible refine (D1.out _ (VIA hbd)).mono ?_); rintro e w4 ⟨g4, rfl, ho4, hb4⟩; have HB4 : Below wa.heap.size wa w4 := hbd.trans hb4)
                | (go_at_call 34; refine (E1.out _ (VIA (AL HB4 _)) _ _ (by simp) (by go_simp) (by go_simp) ((ho4.ints.below ((Below.refl _ _).alloc (Nat.le_refl _) _) (Nat.le_refl _)).wide (Nat.zero_le _) (by simp))).mono ?_; rintro e w5 ⟨a5, c5, rfl, ho5, hb5⟩; have HB5 : Below wa.heap.size wa w5 := (AL HB4 _).trans (hb5.mono (AL HB4 _).size))
                | (go_at_call 35; (with_reducible refine (D2.out w5 (VIA HB5)).mono ?_); rintro e w6 ⟨g6, rfl, ho6, hb6⟩; have HB6 : Below wa.heap.size wa w6 := HB5.trans (hb6.mono HB5.size))
                | (go_at_call 34; refine (E2.out _ (VIA (AL HB6 _)) _ _ (by simp) (by go_simp) (by go_simp) ((ho6.ints.below ((Below.refl _ _).alloc (Nat.le_refl _) _) (Nat.le_refl _)).wide (Nat.zero_le _) (by simp))).mono ?_; rintro e w7 ⟨a7, c7, rfl, ho7, hb7⟩; have HB7 : Below wa.heap.size wa w7 := (AL HB6 _).trans (hb7.mono (AL HB6 _).size); have HC7 : Below w5.heap.size w5 w7 := (hb6.trans (((Below.refl w6.heap.size w6).alloc (Nat.le_refl _) _).mono hb6.size)).trans (hb7.mono (by have := hb6.size; simp; omega)))
                | (refine step_app_nd_keep rfl _ _ rfl (HRO.out _ (VIA (AL HB7 _))) rfl (src_nd (B := w7.heap.size) (v1 := .slice a5 Y.1.length c5) (v2 := .slice a7 Y.2.length c7) (by go_simp) (by go_simp) rfl rfl) rfl (by omega) (by have := (VIA (AL HB7 (.cells #[] 0))).size; have := (VIA HB7).size; simp; omega) ?_; intro v9 w9 hown9 hgrow9 hat9 hkeep9; have HB8 := AL HB7 (.cells #[.slice a5 Y.1.length c5, .slice a7 Y.2.length c7] 57); have HO9 := Only.of_grown (F := fun g => g = gn) hgrow9 (fun g e => by injection e with e; exact e.symm); have HS9 := And.intro ((hkeep9 _ (by omega)).trans (HS7.out _ HB8).1) (And.intro ((hkeep9 _ (by omega)).trans (HS7.out _ HB8).2.1) (And.intro ((HO9.cell (o := 0) (by have := HB8.size; omega) (by omega)).trans (HS7.out _ HB8).2.2.1) ((HO9.cell (o := 1) (by have := HB8.size; omega) (by omega)).trans (HS7.out _ HB8).2.2.2)))))
              all_goals
                obtain ⟨g9, c9, rfl, _, hg9⟩ := hown9.form (by omega)
                have hw8 : Below w7.heap.size w7 (w7.alloc (.cells #[.slice a5 Y.1.length c5, .slice a7 Y.2.length c7] 57)) := (Below.refl _ _).alloc (Nat.le_refl _) _
                have i5 := intsV_own (w := wr) hp.out (fun g h => h.elim) ho5 (VIA (AL HB4 _)).size (HC7.trans (hw8.mono HC7.size))
                have i7 := intsV_own (w := wr) hp.out (fun g h => h.elim) ho7 (VIA (AL HB6 _)).size hw8
                have PS := (hp.out.below (VIA HB8)).snoc (p := (.slice a5 Y.1.length c5, .slice a7 Y.2.length c7)) (nd := (upL Y.1, upL Y.2)) hgrow9 (by rw [HLEN.out]; exact hown9) hat9 i5 i7
                have PS9 : Hid (PileZ w9 (w.heap.size + 3) (.slice (some ⟨g9, 0, none⟩) (n + 1) c9) (vs ++ [(.slice a5 Y.1.length c5, .slice a7 Y.2.length c7)]) ((osP (f.map downN) x (g.map downN) (k + 1 + 1)).map upN) (fun _ => False)) := Lib.hid (by
                  rw [HPN.out, List.map_append]
                  exact PS)
                have B9 : Hid (Below w.heap.size w w9) := Lib.hid ((hbw.out.trans ((VIA HB8).mono hwsz)).grown hgrow9 (by have := (VIA HB8).size; omega) (fun q hq => by have := own_eqp hq; omega))
                have X9 : Hid (BoxAt w9 (w.heap.size + 1 + 1) (.slice none 0 0)) := Lib.hid ((hx.out.below (VIA HB8)).only HO9 (by omega))
                have N9 : Hid (n + 1 = f.length + (k + 1)) := Lib.hid (by have := hn.out; omega)
                clear hown9 hgrow9 hat9 hkeep9 HO9 HS9 HB8 HB7 HB6 HB5 HB4 HC7 hb4 hb5 hb6 hb7 ho4 ho5 ho6 ho7 hw8 i5 i7 PS D1 D2 E1 E2 HRO HS7 hp hbw hx hn VIA AL HPN
                go_wp2
                go_roundw
                case rel => exact ⟨k + 1, n + 1, g9, c9, _, by omega, by go_num, rfl, N9, PS9, B9, X9⟩
                case measure => first | (simp [intOf]; done) | (simp [intOf]; omega)
          · have hke : k = g.length - 1 := by omega
            subst hke
            rw [show g.length - 1 + 1 = g.length by omega, HPALL.out] at hp
            have C2 := Lib.hid (CF.out wr (.slice (some ⟨gn, 0, none⟩) n cn) hp.out.nodesZ)
            have hs5 := hbw.out.size
            have hlx := block_of_cell hx.out.1
            clear hp CF HVN
            go_wp2_with fail
            refine C2.out.mono ?_
            rintro e w6 ⟨a, c, vs6, rfl, ho6, hb6⟩
            obtain ⟨d6, z6⟩ : BoxAt w6 (w.heap.size + 1 + 1) (.slice none 0 0) := BoxAt.below hx.out hb6
            have HO : Hid (OwnF (w6.setCell ⟨w.heap.size + 1 + 1, 0, none⟩ (.slice a out.length c)) w.heap.size (.slice a out.length c) vs6 out) := Lib.hid ((ho6.setCell (by show w.heap.size + 1 + 1 < wr.heap.size; omega)).mono hs5)
            have HB6 : Hid (Below w.heap.size w (w6.setCell ⟨w.heap.size + 1 + 1, 0, none⟩ (.slice a out.length c))) := Lib.hid ((hbw.out.trans (hb6.mono hs5)).setCell (by show w.heap.size ≤ w.heap.size + 1 + 1; omega) _)
            have hcr := World.cell?_setCell_same w6 ⟨w.heap.size + 1 + 1, 0, none⟩ (.slice a out.length c) d6
            clear ho6 hb6 hx C2
            go_wp2_with fail
            exact bodyPost_ret (v := .tuple #[.agg #[.slice a out.length c], .bool ok]) (by simp [results, Try.results10, go_sem, hcr]) rfl ⟨a, c, vs6, rfl, HO.out, HB6.out⟩
end

end Go.Proofs.Ytanjanckkgbnbaa
