/- Games stacked one on another: mathematics. -/
import Derived.Test.YtgbpnegdoilfnaaFmGood
import Derived.Test.YtgbpnegdoilfnaaFmAdd
import Derived.Test.YtgbpnegdoilfnaaFmFs
import Derived.Test.YtgbpnegdoilfnaaFmPartL
import Derived.Test.YtgbpnegdoilfnaaFmForm
import Derived.Test.YtgbpnegdoilfnaaFmFits
import Derived.Test.YtgbpnegdoilfnaaInOf
import Derived.Test.YtgbpnegdoilfnaaSmM
import Derived.Test.YtgbpnegdoilfnaaFmToOwn
import Derived.Deep.RegionLaw
import Derived.Deep.RegionHeld3
import Derived.ArgAppend
import Derived.Test.YtgbpnegdoilfnaaNgI
import Derived.Test.YtgbpnegdoilfnaaFmFormP
import Derived.Test.YtgbpnegdoilfnaaNgL
import Derived.Test.YtgbpnegdoilfnaaFmLaw
namespace Go.Proofs.Ytgbpnegdoilfnaa
section
set_option linter.unusedVariables false
set_option linter.unusedSimpArgs false

def shD (n : Nat) (f : List Nd) : List Nd := f.map fun nd => (nd.1.map (· + n), nd.2.map (· + n))
theorem shD_len (n : Nat) (f : List Nd) : (shD n f).length = f.length := by simp [shD]
theorem shD_snoc (n : Nat) (f : List Nd) (nd : Nd) : shD n (f ++ [nd]) = shD n f ++ [(nd.1.map (· + n), nd.2.map (· + n))] := by simp [shD]
theorem shD_at {n k : Nat} {f : List Nd} {nd : Nd} (h : f[k]? = some nd) : (shD n f)[k]? = some (nd.1.map (· + n), nd.2.map (· + n)) := by unfold shD; rw [List.getElem?_map, h]; rfl
theorem shD_get {n k : Nat} {f : List Nd} {nd : Nd} (h : (shD n f)[k]? = some nd) : ∃ x, f[k]? = some x ∧ nd = (x.1.map (· + n), x.2.map (· + n)) := by
  unfold shD at h
  rw [List.getElem?_map] at h
  cases hx : f[k]? with
  | none => rw [hx] at h; cases h
  | some x => rw [hx] at h; simp only [Option.map_some, Option.some.injEq] at h; exact ⟨x, rfl, h.symm⟩

theorem at_lenP (B f : List Nd) : (addF B f).2.length = f.length := by
  induction f using snocInd with
  | nil => rfl
  | snoc f nd ih => rw [addF_snoc]; simp [ih]

theorem getD_right (A C : List Nat) (x : Nat) : (A ++ C).getD (x + A.length) 0 = C.getD x 0 := by
  rw [List.getD_eq_getElem?_getD, List.getD_eq_getElem?_getD, List.getElem?_append_right (by omega), Nat.add_sub_cancel]
theorem getD_left (A C : List Nat) (x : Nat) (h : x < A.length) : (A ++ C).getD x 0 = A.getD x 0 := by
  rw [List.getD_eq_getElem?_getD, List.getD_eq_getElem?_getD, List.getElem?_append_left h]

theorem addF_sh (P f : List Nd) : addF [] (P ++ shD P.length f) = ((addF (addF [] P).1 f).1, (addF [] P).2 ++ (addF (addF [] P).1 f).2) := by
  induction f using snocInd with
  | nil => simp [shD, addF]
  | snoc f nd ih =>
    rw [shD_snoc, ← List.append_assoc, addF_snoc, ih, addF_snoc]
    have hm : movd (fun x => ((addF [] P).2 ++ (addF (addF [] P).1 f).2).getD x 0) (nd.1.map (· + P.length), nd.2.map (· + P.length)) = movd (fun x => (addF (addF [] P).1 f).2.getD x 0) nd := by
      unfold movd
      simp only [List.map_map, Function.comp_def]
      have hl := at_lenP [] P
      have e : ∀ x, ((addF [] P).2 ++ (addF (addF [] P).1 f).2).getD (x + P.length) 0 = (addF (addF [] P).1 f).2.getD x 0 := fun x => by
        have := getD_right (addF [] P).2 (addF (addF [] P).1 f).2 x
        rwa [hl] at this
      simp only [e]
    dsimp only
    rw [hm, List.append_assoc]

/-- a game put on the pile, its top told -/
def stk (s : List Nd × List Nat) (f : List Nd) : List Nd × List Nat := (s.1 ++ shD s.1.length f, s.2 ++ [s.1.length + f.length - 1])
def stkL (P : List Nd) (fs : List (List Nd)) : List Nd × List Nat := fs.foldl stk (P, [])
theorem stkL_nil (P : List Nd) : stkL P [] = (P, []) := rfl
theorem stkL_snoc (P : List Nd) (fs : List (List Nd)) (f : List Nd) : stkL P (fs ++ [f]) = stk (stkL P fs) f := by simp [stkL, List.foldl_append]
theorem stkL_tops (P : List Nd) (fs : List (List Nd)) : (stkL P fs).2.length = fs.length := by
  induction fs using snocInd with
  | nil => rfl
  | snoc fs f ih => rw [stkL_snoc]; simp [stk, ih]
theorem stkL_pre (P : List Nd) (fs : List (List Nd)) : P <+: (stkL P fs).1 := by
  induction fs using snocInd with
  | nil => exact List.prefix_refl _
  | snoc fs f ih => rw [stkL_snoc]; exact ih.trans (List.prefix_append _ _)
theorem stkL_len (P : List Nd) (fs : List (List Nd)) (h : ∀ f ∈ fs, f.length ≤ 120) : (stkL P fs).1.length ≤ P.length + 120 * fs.length := by
  induction fs using snocInd with
  | nil => simp [stkL]
  | snoc fs f ih =>
    have h1 := ih (fun g hg => h g (by simp [hg]))
    have h2 := h f (by simp)
    rw [stkL_snoc]
    simp only [stk, List.length_append, shD_len, List.length_singleton]
    omega

/-- what is asked of the games -/
structure Fit (f : List Nd) : Prop where
  pos : 0 < f.length
  most : f.length ≤ 120
  under : Under f
  used : Used f
  small : ∀ nd ∈ f, nd.1.length ≤ 24 ∧ nd.2.length ≤ 24

theorem stkL_lt (P : List Nd) (fs : List (List Nd)) (h : ∀ f ∈ fs, 0 < f.length) : ∀ t ∈ (stkL P fs).2, t < (stkL P fs).1.length := by
  induction fs using snocInd with
  | nil => intro t ht; simp [stkL] at ht
  | snoc fs f ih =>
    have h1 := ih (fun g hg => h g (by simp [hg]))
    have h2 := h f (by simp)
    rw [stkL_snoc]
    intro t ht
    simp only [stk, List.length_append, shD_len, List.mem_append, List.mem_singleton] at ht ⊢
    rcases ht with ht | ht
    · have := h1 t ht; omega
    · omega

theorem under_sh {P f : List Nd} (hP : Under P) (hf : Under f) : Under (P ++ shD P.length f) := by
  intro k nd hk x hx
  rcases Nat.lt_or_ge k P.length with hlt | hge
  · rw [List.getElem?_append_left hlt] at hk
    exact hP k nd hk x hx
  · rw [List.getElem?_append_right hge] at hk
    obtain ⟨y, hy, rfl⟩ := shD_get hk
    have := hf _ y hy
    rcases hx with hx | hx
    · obtain ⟨z, hz, rfl⟩ := List.mem_map.1 hx
      have := this z (Or.inl hz); omega
    · obtain ⟨z, hz, rfl⟩ := List.mem_map.1 hx
      have := this z (Or.inr hz); omega

theorem stkL_under (P : List Nd) (fs : List (List Nd)) (hP : Under P) (h : ∀ f ∈ fs, Under f) : Under (stkL P fs).1 := by
  induction fs using snocInd with
  | nil => exact hP
  | snoc fs f ih =>
    rw [stkL_snoc]
    exact under_sh (ih (fun g hg => h g (by simp [hg]))) (h f (by simp))

theorem stkL_small (P : List Nd) (fs : List (List Nd)) (hP : ∀ nd ∈ P, nd.1.length ≤ 24 ∧ nd.2.length ≤ 24) (h : ∀ f ∈ fs, ∀ nd ∈ f, nd.1.length ≤ 24 ∧ nd.2.length ≤ 24) : ∀ nd ∈ (stkL P fs).1, nd.1.length ≤ 24 ∧ nd.2.length ≤ 24 := by
  induction fs using snocInd with
  | nil => exact hP
  | snoc fs f ih =>
    rw [stkL_snoc]
    intro nd hnd
    simp only [stk, List.mem_append] at hnd
    rcases hnd with hnd | hnd
    · exact ih (fun g hg => h g (by simp [hg])) nd hnd
    · unfold shD at hnd
      obtain ⟨x, hx, rfl⟩ := List.mem_map.1 hnd
      have := h f (by simp) x hx
      simpa using this

theorem Reached.pre {A C : List Nd} {r k : Nat} (hp : A <+: C) (h : Reached A r k) : Reached C r k := by
  induction h with
  | root => exact .root
  | opt _ hn hx ih => exact .opt ih (get_pre hp hn) hx
theorem Reached.trans {A : List Nd} {r k j : Nat} (h : Reached A r k) (g : Reached A k j) : Reached A r j := by
  induction g with
  | root => exact h
  | opt _ hn hx ih => exact .opt ih hn hx
theorem Reached.sh {P f : List Nd} {r k : Nat} (h : Reached f r k) : Reached (P ++ shD P.length f) (P.length + r) (P.length + k) := by
  induction h with
  | root => exact .root
  | @opt k' x nd _ hn hx ih =>
    refine .opt (k := P.length + k') (nd := (nd.1.map (· + P.length), nd.2.map (· + P.length))) ih ?_ ?_
    · rw [List.getElem?_append_right (by omega), Nat.add_sub_cancel_left]
      exact shD_at hn
    · rcases hx with hx | hx
      · exact Or.inl (List.mem_map.2 ⟨x, hx, by omega⟩)
      · exact Or.inr (List.mem_map.2 ⟨x, hx, by omega⟩)

theorem stkL_reach (P : List Nd) (fs : List (List Nd)) (h : ∀ f ∈ fs, Fit f) : ∀ k, k < (stkL P fs).1.length → k < P.length ∨ ∃ t ∈ (stkL P fs).2, Reached (stkL P fs).1 t k := by
  induction fs using snocInd with
  | nil => intro k hk; exact Or.inl hk
  | snoc fs f ih =>
    have h1 := ih (fun g hg => h g (by simp [hg]))
    have h2 := h f (by simp)
    rw [stkL_snoc]
    intro k hk
    simp only [stk, List.length_append, shD_len] at hk ⊢
    rcases Nat.lt_or_ge k (stkL P fs).1.length with hlt | hge
    · rcases h1 k hlt with h3 | ⟨t, ht, hr⟩
      · exact Or.inl h3
      · exact Or.inr ⟨t, List.mem_append_left _ ht, hr.pre (List.prefix_append _ _)⟩
    · right
      refine ⟨(stkL P fs).1.length + f.length - 1, by simp, ?_⟩
      have hr := used_reach h2.under h2.used (f.length - 1 - (k - (stkL P fs).1.length)) (by have := h2.pos; omega)
      have hr2 := hr.sh (P := (stkL P fs).1)
      have e1 : (stkL P fs).1.length + (f.length - 1) = (stkL P fs).1.length + f.length - 1 := by have := h2.pos; omega
      have e2 : (stkL P fs).1.length + (f.length - 1 - (f.length - 1 - (k - (stkL P fs).1.length))) = k := by omega
      rwa [e1, e2] at hr2

/-- games with a node on top -/
def mkD (ls rs : List (List Nd)) : List Nd := (stkL (stkL [] ls).1 rs).1 ++ [((stkL [] ls).2, (stkL (stkL [] ls).1 rs).2)]

theorem mkD_under {ls rs : List (List Nd)} (hl : ∀ f ∈ ls, Fit f) (hr : ∀ f ∈ rs, Fit f) : Under (mkD ls rs) := by
  have hu := stkL_under _ rs (stkL_under [] ls (fun k nd hk => by simp at hk) (fun f hf => (hl f hf).under)) (fun f hf => (hr f hf).under)
  have t1 := stkL_lt [] ls (fun f hf => (hl f hf).pos)
  have t2 := stkL_lt (stkL [] ls).1 rs (fun f hf => (hr f hf).pos)
  have hp := (stkL_pre (stkL [] ls).1 rs).length_le
  intro k nd hk x hx
  unfold mkD at hk
  rcases Nat.lt_or_ge k (stkL (stkL [] ls).1 rs).1.length with hlt | hge
  · rw [List.getElem?_append_left hlt] at hk
    exact hu k nd hk x hx
  · rw [List.getElem?_append_right hge] at hk
    have hk0 := get_lt hk
    simp at hk0
    rw [show k - (stkL (stkL [] ls).1 rs).1.length = 0 from by omega] at hk
    simp only [List.getElem?_cons_zero, Option.some.injEq] at hk
    subst hk
    rcases hx with hx | hx
    · have := t1 x hx; omega
    · have := t2 x hx; omega

theorem mkD_len (ls rs : List (List Nd)) : (mkD ls rs).length = (stkL (stkL [] ls).1 rs).1.length + 1 := by simp [mkD]
theorem mkD_most {ls rs : List (List Nd)} (hl : ∀ f ∈ ls, Fit f) (hr : ∀ f ∈ rs, Fit f) : (mkD ls rs).length ≤ 120 * ls.length + 120 * rs.length + 1 := by
  have h1 := stkL_len [] ls (fun f hf => (hl f hf).most)
  have h2 := stkL_len (stkL [] ls).1 rs (fun f hf => (hr f hf).most)
  rw [mkD_len]
  simp only [List.length_nil] at h1
  omega

theorem mkD_reach {ls rs : List (List Nd)} (hl : ∀ f ∈ ls, Fit f) (hr : ∀ f ∈ rs, Fit f) (k : Nat) (hk : k < (mkD ls rs).length) : Reached (mkD ls rs) ((mkD ls rs).length - 1) k := by
  have hlast : (mkD ls rs)[(mkD ls rs).length - 1]? = some ((stkL [] ls).2, (stkL (stkL [] ls).1 rs).2) := by
    rw [mkD_len]
    unfold mkD
    simp
  have hpre : (stkL (stkL [] ls).1 rs).1 <+: mkD ls rs := List.prefix_append _ _
  have hpre1 : (stkL [] ls).1 <+: mkD ls rs := (stkL_pre _ _).trans hpre
  have hk2 := hk
  rw [mkD_len] at hk2
  by_cases e : k = (mkD ls rs).length - 1
  · rw [e]; exact .root
  · have hk3 : k < (stkL (stkL [] ls).1 rs).1.length := by rw [mkD_len] at e; omega
    rcases stkL_reach (stkL [] ls).1 rs hr k hk3 with h3 | ⟨t, ht, h4⟩
    · rcases stkL_reach [] ls hl k h3 with h5 | ⟨t, ht, h4⟩
      · simp at h5
      · exact (Reached.opt .root hlast (Or.inl ht)).trans (h4.pre hpre1)
    · exact (Reached.opt .root hlast (Or.inr ht)).trans (h4.pre hpre)

/-- where the tops are in a book -/
def atT (Q : List Nd) (T : List Nat) : List Nat := T.map fun t => (addF [] Q).2.getD t 0

theorem atT_step (Q : List Nd) (T : List Nat) (f : List Nd) (h0 : 0 < f.length) (hT : ∀ t ∈ T, t < Q.length) :
    atT (Q ++ shD Q.length f) (T ++ [Q.length + f.length - 1]) = atT Q T ++ [(addF (addF [] Q).1 f).2.getD (f.length - 1) 0] := by
  unfold atT
  have hl := at_lenP [] Q
  rw [addF_sh, List.map_append]
  congr 1
  · refine List.map_congr_left fun t ht => ?_
    exact getD_left _ _ _ (by rw [hl]; exact hT t ht)
  · simp only [List.map_cons, List.map_nil]
    have := getD_right (addF [] Q).2 (addF (addF [] Q).1 f).2 (f.length - 1)
    rw [hl] at this
    rw [← this]
    congr 2
    omega

theorem atT_keep (Q : List Nd) (T : List Nat) (f : List Nd) (hT : ∀ t ∈ T, t < Q.length) : atT (Q ++ shD Q.length f) T = atT Q T := by
  unfold atT
  have hl := at_lenP [] Q
  rw [addF_sh]
  exact List.map_congr_left fun t ht => getD_left _ _ _ (by rw [hl]; exact hT t ht)
end

section
set_option linter.unusedVariables false
set_option linter.unusedSimpArgs false
open Go.RowKit

set_option maxRecDepth 100000 in
set_option maxHeartbeats 8000000 in
theorem add_callsX (X : Nat → Prop) (base B : Nat) (ns : List Nd) (vn0 vb0 : Value) (vs0 : List (Value × Value)) (vf : Value) (f : List Nd) (w : World) (lo hi : Nat) (hh : hi ≤ base)
    (hX : ∀ g, X g → g < w.heap.size) (hFX : ∀ g, Foot B vn0 vb0 g → ¬ X g) (h : Bk base w B ns (bornsOf ns) vn0 vb0 vs0 X) (hbk : Book ns) (hv : NodesZ w lo hi vf (f.map upN)) (hf : Under f) (hn : ns.length + f.length ≤ 90000) (hl : ∀ nd ∈ f, nd.1.length ≤ 90000 ∧ nd.2.length ≤ 90000) :
    Calls Try.prog 98 #[.pointer (some ⟨B, 0, none⟩), .agg #[vf]] w fun e w' => ∃ g c vn vb vs, e = .returned (.slice (some ⟨g, 0, none⟩) f.length c) ∧ IntsZ w' w.heap.size w'.heap.size (.slice (some ⟨g, 0, none⟩) f.length c) (upL (addF ns f).2) ∧
      Bk base w' B (addF ns f).1 (bornsOf (addF ns f).1) vn vb vs X ∧ Only w w' (Foot B vn0 vb0) ∧ ∀ x, x < w.heap.size → Foot B vn vb x → Foot B vn0 vb0 x := by
  have HK0 := Lib.hid h
  have HV := Lib.hid hv
  have HF := Lib.hid hf
  have HL := Lib.hid hl
  have HAD := Lib.hid fun k => addF_added ns hbk (f.take k) (under_take hf k)
  have HFL := Lib.hid h.lt
  have HXX := Lib.hid hX
  have HFX := Lib.hid hFX
  have hbase : base ≤ w.heap.size := by have := h.lt B (Or.inl rfl); omega
  obtain ⟨aof, cof, rfl, _, _⟩ := hv
  rw [List.length_map] at HV ⊢
  clear hl hf hbk h hX hFX
  have HB0 : Hid (Below w.heap.size w ((w.alloc (.cells #[.slice aof f.length cof] 24)).alloc (.cells #[] 3))) := Lib.hid (((Below.refl _ _).alloc (Nat.le_refl _) _).alloc (by simp) _)
  have HO0 : Hid (((w.alloc (.cells #[.slice aof f.length cof] 24)).alloc (.cells #[] 3)).ownsRow base 3 1 (.slice (some ⟨w.heap.size + 1, 0, none⟩) 0 0) 0 []) := Lib.hid (by
    have h := World.ownsRow_lit (base := base) (e := 3) (size := 1) (w.alloc (.cells #[.slice aof f.length cof] 24)) #[] 0 (by simp; omega) (by unfold maxLen; omega) rfl
    rw [show (w.alloc (.cells #[.slice aof f.length cof] 24)).heap.size = w.heap.size + 1 from by simp] at h
    exact h)
  go_enter Try.func98, Try.ntmps98
  go_wp2
  go_loopw [5, 6] (fun q i wr => ∃ (k ga ca : Nat) (vn vb : Value) (vs : List (Value × Value)), k ≤ f.length ∧ i = .int .i64 k ∧ q = .slice (some ⟨ga, 0, none⟩) k ca ∧ Hid (Bk base wr B (addF ns (f.take k)).1 (bornsOf (addF ns (f.take k)).1) vn vb vs (fun g => g = ga ∨ X g)) ∧
      Hid (wr.ownsRow base 3 1 (.slice (some ⟨ga, 0, none⟩) k ca) k ((addF ns (f.take k)).2.map iv)) ∧ w.heap.size < ga ∧ Hid (¬ Foot B vn vb ga) ∧ Hid (∀ g, g < w.heap.size + 1 → Foot B vn vb g → Foot B vn0 vb0 g) ∧ Hid (Only w wr (Foot B vn0 vb0)) ∧ wr.cell? ⟨w.heap.size, 0, none⟩ = some (.slice aof f.length cof)) (fun _ i _ => f.length - (intOf i).toNat)
  case atStart =>
    refine ⟨0, w.heap.size + 1, 0, vn0, vb0, vs0, Nat.zero_le _, rfl, rfl, Lib.hid ?_, Lib.hid ?_, by omega, Lib.hid (fun hF => by have := (HFL.out _ hF).2; omega), Lib.hid (fun _ _ hF => hF), Lib.hid (Only.of_below HB0.out), by go_simp⟩
    · have h1 : Bk base w B ns (bornsOf ns) vn0 vb0 vs0 (fun g => g = w.heap.size + 1 ∨ X g) := HK0.out.reX (fun g hg e => e.resolve_left (by omega))
      simpa [addF] using h1.below HB0.out
    · simpa [addF] using HO0.out
  case round =>
    obtain ⟨k, ga, ca, vn, vb, vs, hk, rfl, rfl, hK, hown, hga, hnf, hft, ho, hbox⟩ := hrel
    by_cases hlt : k < f.length
    · obtain ⟨nd, hx⟩ := lt_get hlt
      have hadd := addF_take ns f k nd hx
      have had := HAD.out k
      have hlen := addF_len ns (f.take k)
      obtain ⟨ao1, c1, e1, _, hnn⟩ := (HV.out.below (ho.out.below hbase (fun g hg => (HFL.out g hg).1)) hh)
      obtain ⟨b, off, v1, v2, hao, _, hbhi, p1, p2, i1, i2⟩ := hnn k (upN nd) (by rw [List.getElem?_map, hx]; rfl)
      obtain ⟨q1, q2, q3⟩ := slice_inj e1
      rw [hao] at q1
      subst q1
      clear q2 q3 e1 hnn
      obtain ⟨hAl, hAI⟩ := own_intsA hown.out (by omega)
      have hnd := HL.out nd (List.mem_of_getElem? hx)
      have hux := HF.out k nd hx
      have hgaw : ga < wr.heap.size := (World.ownsRow.lt hown.out _ rfl).2
      have hos := ho.out.size
      generalize hC : (addF ns (f.take k)).1 = C at hK had hlen hadd
      generalize hA : (addF ns (f.take k)).2 = A at hown had hlen hadd hAl hAI
      have hAC : ∀ x, x < k → A.getD x 0 < C.length := fun x hxk => by
        obtain ⟨n0, hn0⟩ := lt_get (l := f.take k) (i := x) (by simp; omega)
        exact get_lt (had.node x n0 hn0)
      have hCu := had.book.struct.under
      have hCl : C.length ≤ 90000 := by have := hlen.2; simp at this; omega
      have hwr : base ≤ wr.heap.size := by omega
      have C1 := Lib.hid fun (W : World) (hW : Below wr.heap.size wr W) => l3At_calls (.slice (some ⟨ga, 0, none⟩) k ca) v1 A nd.1 W ga (ga + 1) lo hi (by have := hW.size; omega) (by have := hW.size; omega) (hAI.below hW (by omega)) (i1.below hW (by omega)) (by omega) (fun x hx => by rw [hAl]; exact hux x (Or.inl hx))
      have C2 := Lib.hid fun (W : World) (hW : Below wr.heap.size wr W) => l3At_calls (.slice (some ⟨ga, 0, none⟩) k ca) v2 A nd.2 W ga (ga + 1) lo hi (by have := hW.size; omega) (by have := hW.size; omega) (hAI.below hW (by omega)) (i2.below hW (by omega)) (by omega) (fun x hx => by rw [hAl]; exact hux x (Or.inr hx))
      have C3 := Lib.hid fun (W : World) (hW : Below wr.heap.size wr W) (vl vr : Value) (l1 h1 l2 h2 : Nat) (hh1 : h1 ≤ W.heap.size) (hh2 : h2 ≤ W.heap.size) (hvl : IntsZ W l1 h1 vl (upL (nd.1.map (fun x => A.getD x 0)))) (hvr : IntsZ W l2 h2 vr (upL (nd.2.map (fun x => A.getD x 0)))) =>
        put_calls base B C vn vb vs (fun g => g = ga ∨ X g) vl vr (nd.1.map (fun x => A.getD x 0)) (nd.2.map (fun x => A.getD x 0)) W l1 h1 l2 h2 hh1 hh2 (hK.out.below hW) (fun g e => by have := hW.size; rcases e with e | e <;> first | omega | (have := HXX.out g e; omega)) hCu hvl hvr
          (fun y hy => by obtain ⟨x, hx, rfl⟩ := List.mem_map.1 hy; exact hAC x (hux x (Or.inl hx))) (fun y hy => by obtain ⟨x, hx, rfl⟩ := List.mem_map.1 hy; exact hAC x (hux x (Or.inr hx))) (by omega) (by simp; omega) (by simp; omega)
      generalize seat C (sortd (nd.1.map (fun x => A.getD x 0)), sortd (nd.2.map (fun x => A.getD x 0))) = su at C3 hadd
      generalize bookPut C (sortd (nd.1.map (fun x => A.getD x 0)), sortd (nd.2.map (fun x => A.getD x 0))) = Cp at C3 hadd
      have HOW := Lib.hid fun (W : World) (hW : Below wr.heap.size wr W) => own_only hown.out (Only.of_below (F := fun _ => False) hW) (fun _ _ => id)
      have HFK := Lib.hid hK.out.lt
      have HADD := Lib.hid hadd
      have hS0 : AddS w.heap.size b (off + k * 2) (.slice (some ⟨b, off, none⟩) f.length cof) v1 v2 wr.drew := ⟨hbox, p1, p2⟩
      have HBX := Lib.hid hbox
      have nb0 : Hid (¬ Foot B vn vb w.heap.size) := Lib.hid (fun hF => by have := hft.out _ (by omega) hF; have := (HFL.out _ this).2; omega)
      have nb1 : Hid (¬ Foot B vn vb b) := Lib.hid (fun hF => by have := (HFK.out _ hF).1; omega)
      have hbd : Hid (Below wr.heap.size wr wr.drew) := Lib.hid (below_drewN (Below.refl _ _) 1)
      clear hAI i1 i2 hadd had hlen p1 p2 hAC
      have b0 : (0 : Int) ≤ k := by omega
      have b1 : (k : Int) < f.length := by omega
      go_wp2
      go_region_held3 (fun w' : World => w'.cell? ⟨w.heap.size, 0, none⟩ = some (.slice (some ⟨b, off, none⟩) f.length cof) ∧ w'.cell? ⟨b, off + k * 2, none⟩ = some v1 ∧ w'.cell? ⟨b, off + k * 2 + 1, none⟩ = some v2) (first | exact hS0 | (go_split_ands; exact ⟨‹_›, ‹_›, ‹_›⟩) | (go_split_ands; exact addS_only HAPP.out (by omega) (by omega) ⟨‹_›, ‹_›, ‹_›⟩) | (go_split_ands; exact addS_below ((Below.refl _ _).alloc (Nat.le_refl _) _) ⟨‹_›, ‹_›, ‹_›⟩) | (go_split_ands; exact addS_only ho6 nb0.out nb1.out ⟨‹_›, ‹_›, ‹_›⟩) | (go_split_ands; exact addS_below hb5 ⟨‹_›, ‹_›, ‹_›⟩) | (go_split_ands; exact addS_below hb4 ⟨‹_›, ‹_›, ‹_›⟩)) (first | (go_at_call 87; (with_reducible refine (C3.out w5 HB5 _ _ _ _ _ _ (Nat.le_refl _) (Nat.le_refl _) (hi1.below hb5 (Nat.le_refl _) |>.wide (Nat.le_refl _) hb5.size) hi2).mono ?_); rintro e w6 ⟨rfl, vn', vb', vs', hK6, ho6, hf6⟩) | (go_at_call 99; (with_reducible refine (C1.out _ hbd.out).mono ?_); rintro e w4 ⟨g1, c1, rfl, hi1, hg1, hg1', hb4⟩; have HB4 : Below wr.heap.size wr w4 := Below.trans hbd.out hb4) | (go_at_call 99; (with_reducible refine (C2.out w4 HB4).mono ?_); rintro e w5 ⟨g2, c2, rfl, hi2, hg2, hg2', hb5⟩; have HB5 : Below wr.heap.size wr w5 := HB4.trans (hb5.mono HB4.size); have HO6 := HOW.out w5 HB5) | (refine step_app_at rfl _ _ rfl (World.ownsRow.alloc (own_only HO6 ho6 (fun g e => by injection e with e; subst e; exact hnf.out)) _) rfl (B := w6.heap.size) (u := su) (by go_simp) rfl (by omega) (by simp; have := ho6.size; have := HB5.size; omega) ?_; intro v7 w7 hown7 hgrow7 hat7; have HAPP : Hid (Only _ w7 (fun g => g = ga)) := Lib.hid (Only.of_grown hgrow7 (fun g e => by injection e with e; exact e.symm))))
      all_goals
        obtain ⟨g7, c7, rfl, _, hg7h⟩ := hown7.form (by omega)
        have HK7a := hK6.below ((Below.refl w6.heap.size w6).alloc (Nat.le_refl _) (.cells #[.int .i64 (su : Int)] 3))
        have hz6 : (w6.alloc (.cells #[.int .i64 (su : Int)] 3)).heap.size = w6.heap.size + 1 := by simp
        have hz5 := HB5.size
        have hs6 := ho6.size
        have hgaF : ¬ Foot B vn' vb' ga := fun hF => hnf.out (hf6 ga (by omega) hF)
        have hat : g7 = ga ∨ g7 = w6.heap.size + 1 := by
          rcases hat7 with e | e
          · left; injection e
          · right; rw [hz6] at e; injection e
        have HFX7 : ∀ g, Foot B vn' vb' g → ¬ X g := fun g hF hx => by
          have h1 := HXX.out g hx
          exact HFX.out g (hft.out g (by omega) (hf6 g (by omega) hF)) hx
        have HK7b := (HK7a.reX (Y := fun g => (g = ga ∨ g = w6.heap.size + 1) ∨ X g) (fun g hg e => by
          rcases e with (e | e) | e
          · exact Or.inl e
          · rw [hz6] at hg; omega
          · exact Or.inr e)).only (HAPP.out.mono (fun i _ e => Or.inl (Or.inl e))) (fun g hF e => by
          rcases e with (e | e) | e
          · exact hgaF (e ▸ hF)
          · have := (HK7a.lt g hF).2; rw [hz6] at this; omega
          · exact HFX7 g hF e)
        have HK7 : Hid (Bk base w7 B Cp (bornsOf Cp) vn' vb' vs' (fun g => g = g7 ∨ X g)) := Lib.hid (HK7b.reX (fun g _ e => e.imp (fun e => by subst e; exact hat) id))
        have HNF7 : Hid (¬ Foot B vn' vb' g7) := Lib.hid (fun hF => by
          rcases hat with e | e
          · exact hgaF (e ▸ hF)
          · have := (HK7a.lt g7 hF).2; rw [hz6] at this; omega)
        have OT : Only wr w7 (fun g => Foot B vn vb g ∨ g = ga) :=
          (((Only.of_below (F := fun g => Foot B vn vb g ∨ g = ga) HB5).trans ho6 (fun i _ h => Or.inl h)).trans (Only.of_below (F := fun g => Foot B vn vb g ∨ g = ga) ((Below.refl w6.heap.size w6).alloc (Nat.le_refl _) (.cells #[.int .i64 (su : Int)] 3))) (fun i _ h => h)).trans HAPP.out (fun i _ h => Or.inr h)
        have HO7 : Hid (Only w w7 (Foot B vn0 vb0)) := Lib.hid (ho.out.trans OT (fun i hi h => by
          rcases h with h | h
          · exact hft.out i (by omega) h
          · omega))
        have HFT7 : Hid (∀ g, g < w.heap.size + 1 → Foot B vn' vb' g → Foot B vn0 vb0 g) := Lib.hid (fun g hg hF => hft.out g hg (hf6 g (by omega) hF))
        have HBX7 : Hid (w7.cell? ⟨w.heap.size, 0, none⟩ = some (.slice (some ⟨b, off, none⟩) f.length cof)) := Lib.hid ((OT.cell (block_of_cell HBX.out) (fun h => by
          rcases h with h | h
          · exact nb0.out h
          · omega)).trans HBX.out)
        have HOWN : Hid (w7.ownsRow base 3 1 (.slice (some ⟨g7, 0, none⟩) (k + 1) c7) (k + 1) ((A ++ [su]).map iv)) := Lib.hid (by rw [List.map_append]; exact hown7)
        have hg7 : w.heap.size < g7 := by omega
        clear hown7 hgrow7 hat7 HAPP OT HK7a HK7b hz6 hK6 ho6 hf6 hat hgaF HFX7
        go_wp2
        go_roundw
        case rel => exact ⟨k + 1, g7, c7, vn', vb', vs', by omega, by go_num, rfl, by rw [HADD.out]; exact HK7, by rw [HADD.out]; exact HOWN, hg7, HNF7, HFT7, HO7, HBX7.out⟩
        case measure => simp [intOf]; omega
    · have hke : f.take k = f := List.take_of_length_le (by omega)
      have hkl : k = f.length := by omega
      subst hkl
      rw [hke] at hK hown
      obtain ⟨_, hAI⟩ := own_intsA hown.out (by omega)
      have hgaw : ga < wr.heap.size := (World.ownsRow.lt hown.out _ rfl).2
      have HI := Lib.hid (hAI.wide (lo' := w.heap.size) (hi' := wr.heap.size) (by omega) (by omega))
      have HKE := Lib.hid (hK.out.reX (Y := X) (fun _ _ h => Or.inr h))
      have HFE : Hid (∀ x, x < w.heap.size → Foot B vn vb x → Foot B vn0 vb0 x) := Lib.hid (fun x hx => hft.out x (by omega))
      clear hAI hK hown hke
      go_wp2
      go_ret
      exact ⟨ga, ca, vn, vb, vs, rfl, HI.out, HKE.out, ho.out, HFE.out⟩

set_option maxHeartbeats 1000000 in
theorem root_callsX (X : Nat → Prop) (base B : Nat) (ns : List Nd) (vn0 vb0 : Value) (vs0 : List (Value × Value)) (vf : Value) (f : List Nd) (w : World) (lo hi : Nat) (hh : hi ≤ base)
    (hX : ∀ g, X g → g < w.heap.size) (hFX : ∀ g, Foot B vn0 vb0 g → ¬ X g) (h : Bk base w B ns (bornsOf ns) vn0 vb0 vs0 X) (hbk : Book ns) (hv : NodesZ w lo hi vf (f.map upN)) (hf : Under f) (h0 : 0 < f.length) (hn : ns.length + f.length ≤ 90000) (hl : ∀ nd ∈ f, nd.1.length ≤ 90000 ∧ nd.2.length ≤ 90000) :
    Calls Try.prog 86 #[.pointer (some ⟨B, 0, none⟩), .agg #[vf]] w fun e w' => e = .returned (.int .i64 ((addF ns f).2.getD (f.length - 1) 0 : Nat)) ∧ ∃ vn vb vs,
      Bk base w' B (addF ns f).1 (bornsOf (addF ns f).1) vn vb vs X ∧ Only w w' (Foot B vn0 vb0) ∧ ∀ x, x < w.heap.size → Foot B vn vb x → Foot B vn0 vb0 x := by
  have hbase : base ≤ w.heap.size := by have := h.lt B (Or.inl rfl); omega
  have C := Lib.hid fun (W : World) (hW : Below w.heap.size w W) => add_callsX X base B ns vn0 vb0 vs0 vf f W lo hi hh (fun g hg => Nat.lt_of_lt_of_le (hX g hg) hW.size) hFX (h.below hW) hbk (hv.below hW (by omega)) hf hn hl
  have hfl := (addF_len ns f).1
  obtain ⟨y, hy⟩ := lt_get (l := (addF ns f).2) (i := f.length - 1) (by omega)
  have HY : Hid ((addF ns f).2.getD (f.length - 1) 0 = y) := Lib.hid (by rw [List.getD_eq_getElem?_getD, hy]; rfl)
  have HYY := Lib.hid hy
  have hB1 : Hid (Below w.heap.size w (w.alloc (.cells #[vf] 24))) := Lib.hid ((Below.refl _ _).alloc (Nat.le_refl _) _)
  have hw1 : IntKind.i64.wrap ((f.length : Int) - 1) = (f.length : Int) - 1 := IntWalk.i64_in _ (by omega)
  have hw2 : (0 : Int) ≤ (f.length : Int) - 1 := by omega
  have hw3 : (f.length : Int) - 1 < f.length := by omega
  have hw4 : ((f.length : Int) - 1).toNat = f.length - 1 := by omega
  clear h hv hbk hf hl hfl hy hX hFX
  go_enter Try.func86, Try.ntmps86
  go_wp2_with fail
  refine (C.out _ hB1.out).mono ?_
  rintro e w4 ⟨g, c, vn, vb, vs, rfl, hi4, hK4, ho4, hf4⟩
  have hsz4 := ho4.size
  obtain ⟨ao, c', e', _, hcc⟩ := hi4
  obtain ⟨bb, oo, hao, _, _, hcell⟩ := hcc (f.length - 1) (y : Int) (by unfold upL; rw [List.getElem?_map, HYY.out]; rfl)
  obtain ⟨q1, q2, q3⟩ := slice_inj e'
  rw [← q1] at hao
  injection hao with hao
  injection hao with h1 h2
  subst h1 h2
  rw [Nat.zero_add] at hcell
  have HK := Lib.hid hK4
  have HO : Hid (Only w w4 (Foot B vn0 vb0)) := Lib.hid ((Only.of_below (F := Foot B vn0 vb0) hB1.out).trans ho4 (fun _ _ h => h))
  have HFF : Hid (∀ x, x < w.heap.size → Foot B vn vb x → Foot B vn0 vb0 x) := Lib.hid (fun x hx => hf4 x (by simp; omega))
  clear hcc q1 q2 q3 e' hK4 ho4 hf4 hsz4
  go_wp2
  go_ret
  exact ⟨ret_int (by rw [HY.out]), vn, vb, vs, HK.out, HO.out, HFF.out⟩
end

section
open Go.RowKit
set_option linter.unusedVariables false
set_option linter.unusedSimpArgs false

structure MkS (base : Nat) (w : World) (Q : List Nd) (TL TR : List Nat) (gl cl gr cr : Nat) (vn vb : Value) (vs : List (Value × Value)) : Prop where
  bk : Bk base w base (addF [] Q).1 (bornsOf (addF [] Q).1) vn vb vs (fun g => g = gl ∨ g = gr)
  ol : w.ownsRow base 3 1 (.slice (some ⟨gl, 0, none⟩) TL.length cl) TL.length ((atT Q TL).map iv)
  or_ : w.ownsRow base 3 1 (.slice (some ⟨gr, 0, none⟩) TR.length cr) TR.length ((atT Q TR).map iv)
  ll : base < gl
  lr : base < gr
  ne : gl ≠ gr
  fl : ¬ Foot base vn vb gl
  fr : ¬ Foot base vn vb gr
  tl : ∀ t ∈ TL, t < Q.length
  tr : ∀ t ∈ TR, t < Q.length
  und : Under Q

theorem MkS.swap {base : Nat} {w : World} {Q : List Nd} {TL TR : List Nat} {gl cl gr cr : Nat} {vn vb : Value} {vs : List (Value × Value)} (h : MkS base w Q TL TR gl cl gr cr vn vb vs) : MkS base w Q TR TL gr cr gl cl vn vb vs :=
  ⟨h.bk.reX (fun _ _ e => e.symm), h.or_, h.ol, h.lr, h.ll, h.ne.symm, h.fr, h.fl, h.tr, h.tl, h.und⟩

theorem MkS.size {base : Nat} {w : World} {Q : List Nd} {TL TR : List Nat} {gl cl gr cr : Nat} {vn vb : Value} {vs : List (Value × Value)} (h : MkS base w Q TL TR gl cl gr cr vn vb vs) : gl < w.heap.size ∧ gr < w.heap.size ∧ base < w.heap.size := by
  have h1 := (World.ownsRow.lt h.ol gl rfl).2
  have h2 := (World.ownsRow.lt h.or_ gr rfl).2
  exact ⟨h1, h2, by have := h.ll; omega⟩

theorem MkS.below {base : Nat} {w w' : World} {Q : List Nd} {TL TR : List Nat} {gl cl gr cr : Nat} {vn vb : Value} {vs : List (Value × Value)} (h : MkS base w Q TL TR gl cl gr cr vn vb vs) (hb : Below w.heap.size w w') : MkS base w' Q TL TR gl cl gr cr vn vb vs :=
  ⟨h.bk.below hb, own_only h.ol (Only.of_below (F := fun _ => False) hb) (fun _ _ => id), own_only h.or_ (Only.of_below (F := fun _ => False) hb) (fun _ _ => id), h.ll, h.lr, h.ne, h.fl, h.fr, h.tl, h.tr, h.und⟩

theorem bk_nilM (w : World) : Bk w.heap.size (w.alloc (.cells #[.slice none 0 0, .slice none 0 0] 90)) w.heap.size [] (bornsOf []) (.slice none 0 0) (.slice none 0 0) [] (fun _ => False) :=
  ⟨by go_simp, by go_simp, by go_simp, by go_simp, Nat.le_refl _, World.ownsRow_nil _ _ _ _, rfl, fun j nd p hj => by simp at hj, World.ownsRow_nil _ _ _ _, by simp [Value.ownBlock], by simp [Value.ownBlock], fun g hg => by simp [Value.ownBlock] at hg⟩

theorem MkS.start (w : World) : MkS w.heap.size (((w.alloc (.cells #[.slice none 0 0, .slice none 0 0] 90)).alloc (.cells #[] 3)).alloc (.cells #[] 3)) [] [] [] (w.heap.size + 1) 0 (w.heap.size + 2) 0 (.slice none 0 0) (.slice none 0 0) [] := by
  have hz : (w.alloc (.cells #[.slice none 0 0, .slice none 0 0] 90)).heap.size = w.heap.size + 1 := by simp
  have hz2 : ((w.alloc (.cells #[.slice none 0 0, .slice none 0 0] 90)).alloc (.cells #[] 3)).heap.size = w.heap.size + 2 := by simp
  have hb : Below (w.alloc (.cells #[.slice none 0 0, .slice none 0 0] 90)).heap.size (w.alloc (.cells #[.slice none 0 0, .slice none 0 0] 90)) (((w.alloc (.cells #[.slice none 0 0, .slice none 0 0] 90)).alloc (.cells #[] 3)).alloc (.cells #[] 3)) := ((Below.refl _ _).alloc (Nat.le_refl _) _).alloc (by simp) _
  have nf : ∀ g, g ≠ w.heap.size → ¬ Foot w.heap.size (.slice none 0 0) (.slice none 0 0) g := fun g hg h => by
    rcases h with h | h | h
    · exact hg h
    · simp [Value.ownBlock] at h
    · simp [Value.ownBlock] at h
  refine ⟨((bk_nilM w).reX (Y := fun g => g = w.heap.size + 1 ∨ g = w.heap.size + 2) (fun g hg e => by rw [hz] at hg; omega)).below hb, ?_, ?_, by omega, by omega, by omega, nf _ (by omega), nf _ (by omega), fun t ht => by simp at ht, fun t ht => by simp at ht, fun k nd hk => by simp at hk⟩
  · have h := World.ownsRow_lit (base := w.heap.size) (e := 3) (size := 1) (w.alloc (.cells #[.slice none 0 0, .slice none 0 0] 90)) #[] 0 (by rw [hz]; omega) (by unfold maxLen; omega) rfl
    rw [hz] at h
    exact World.ownsRow.alloc h _
  · have h := World.ownsRow_lit (base := w.heap.size) (e := 3) (size := 1) ((w.alloc (.cells #[.slice none 0 0, .slice none 0 0] 90)).alloc (.cells #[] 3)) #[] 0 (by rw [hz2]; omega) (by unfold maxLen; omega) rfl
    rw [hz2] at h
    exact h

theorem upD_len (f : List Nd) : (f.map upN).length = f.length := by simp

/-- a game is put into the book -/
theorem MkS.root_calls {base : Nat} {wr : World} {Q : List Nd} {TL TR : List Nat} {gl cl gr cr : Nat} {vn vb : Value} {vs : List (Value × Value)} (h : MkS base wr Q TL TR gl cl gr cr vn vb vs) (W : World) (hW : Below wr.heap.size wr W) (v : Value) (f : List Nd) (hF : Fit f) (hn : Q.length ≤ 80000) (lo hi : Nat) (hh : hi ≤ base) (hv : NodesZ W lo hi v (f.map upN)) :
    Calls Try.prog 86 #[.pointer (some ⟨base, 0, none⟩), .agg #[v]] W fun e w' => e = .returned (.int .i64 ((addF (addF [] Q).1 f).2.getD (f.length - 1) 0 : Nat)) ∧ ∃ vn' vb' vs',
      Bk base w' base (addF (addF [] Q).1 f).1 (bornsOf (addF (addF [] Q).1 f).1) vn' vb' vs' (fun g => g = gl ∨ g = gr) ∧ Only W w' (Foot base vn vb) ∧ ∀ x, x < W.heap.size → Foot base vn' vb' x → Foot base vn vb x := by
  have hs := h.size
  have hz := hW.size
  refine root_callsX (fun g => g = gl ∨ g = gr) base base (addF [] Q).1 vn vb vs v f W lo hi hh (fun g hg => by rcases hg with hg | hg <;> omega) (fun g hg e => ?_) (h.bk.below hW) (addF_added [] book_nil Q h.und).book hv hF.under hF.pos (by have := (addF_len [] Q).2; have := hF.most; simp at *; omega) (fun nd hnd => by have := hF.small nd hnd; omega)
  rcases e with e | e
  · exact h.fl (e ▸ hg)
  · exact h.fr (e ▸ hg)

/-- ... and its place told -/
theorem MkS.next {base : Nat} {wr W w6 w7 : World} {Q : List Nd} {TL TR : List Nat} {gl cl gr cr : Nat} {vn vb vn' vb' v7 : Value} {vs vs' : List (Value × Value)} {f : List Nd} {u : Nat} (h : MkS base wr Q TL TR gl cl gr cr vn vb vs) (hF : Fit f) (hu : (addF (addF [] Q).1 f).2.getD (f.length - 1) 0 = u) (hW : Below wr.heap.size wr W)
    (hK6 : Bk base w6 base (addF (addF [] Q).1 f).1 (bornsOf (addF (addF [] Q).1 f).1) vn' vb' vs' (fun g => g = gl ∨ g = gr)) (ho6 : Only W w6 (Foot base vn vb)) (hf6 : ∀ g, g < W.heap.size → Foot base vn' vb' g → Foot base vn vb g)
    (hown7 : w7.ownsRow base 3 1 v7 (TL.length + 1) ((atT Q TL).map iv ++ [iv u])) (hgrow7 : (w6.alloc (.cells #[.int .i64 ((u : Nat) : Int)] 3)).grownBy w7 (Value.slice (some ⟨gl, 0, none⟩) TL.length cl).ownBlock)
    (hat7 : v7.ownBlock = (Value.slice (some ⟨gl, 0, none⟩) TL.length cl).ownBlock ∨ v7.ownBlock = some (w6.alloc (.cells #[.int .i64 ((u : Nat) : Int)] 3)).heap.size) :
    ∃ g7 c7, v7 = .slice (some ⟨g7, 0, none⟩) (TL.length + 1) c7 ∧ Hid (MkS base w7 (stk (Q, TL) f).1 (stk (Q, TL) f).2 TR g7 c7 gr cr vn' vb' vs') ∧ Hid (Below base wr w7) := by
  obtain ⟨g7, c7, rfl, _, hg7h⟩ := hown7.form (by omega)
  have hs := h.size
  have hll := h.ll
  have hlr := h.lr
  have hne := h.ne
  have HAPP : Only (w6.alloc (.cells #[.int .i64 ((u : Nat) : Int)] 3)) w7 (fun g => g = gl) := Only.of_grown hgrow7 (fun g e => by injection e with e; exact e.symm)
  have hal : Below w6.heap.size w6 (w6.alloc (.cells #[.int .i64 ((u : Nat) : Int)] 3)) := (Below.refl _ _).alloc (Nat.le_refl _) _
  have HK7a := hK6.below hal
  have hz6 : (w6.alloc (.cells #[.int .i64 ((u : Nat) : Int)] 3)).heap.size = w6.heap.size + 1 := by simp
  have hz5 := hW.size
  have hs6 := ho6.size
  have hglF : ¬ Foot base vn' vb' gl := fun hF => h.fl (hf6 gl (by omega) hF)
  have hgrF : ¬ Foot base vn' vb' gr := fun hF => h.fr (hf6 gr (by omega) hF)
  have hat : g7 = gl ∨ g7 = w6.heap.size + 1 := by
    rcases hat7 with e | e
    · left; injection e
    · right; rw [hz6] at e; injection e
  have HK7b := (HK7a.reX (Y := fun g => (g = gl ∨ g = w6.heap.size + 1) ∨ g = gr) (fun g hg e => by
    rcases e with (e | e) | e
    · exact Or.inl e
    · rw [hz6] at hg; omega
    · exact Or.inr e)).only (HAPP.mono (fun i _ e => Or.inl (Or.inl e))) (fun g hF e => by
    rcases e with (e | e) | e
    · exact hglF (e ▸ hF)
    · have := (HK7a.lt g hF).2; rw [hz6] at this; omega
    · exact hgrF (e ▸ hF))
  have HK7 : Bk base w7 base (addF (addF [] Q).1 f).1 (bornsOf (addF (addF [] Q).1 f).1) vn' vb' vs' (fun g => g = g7 ∨ g = gr) := HK7b.reX (fun g _ e => e.imp (fun e => by subst e; exact hat) id)
  have HNF7 : ¬ Foot base vn' vb' g7 := fun hF => by
    rcases hat with e | e
    · exact hglF (e ▸ hF)
    · have := (HK7a.lt g7 hF).2; rw [hz6] at this; omega
  have O6 : Only wr (w6.alloc (.cells #[.int .i64 ((u : Nat) : Int)] 3)) (Foot base vn vb) := ((Only.of_below (F := Foot base vn vb) hW).trans ho6 (fun i _ h => h)).trans (Only.of_below (F := Foot base vn vb) hal) (fun i _ h => h)
  have OT : Only wr w7 (fun g => Foot base vn vb g ∨ g = gl) := (O6.mono (fun i _ h => Or.inl h)).trans HAPP (fun i _ h => Or.inr h)
  have hR : w7.ownsRow base 3 1 (.slice (some ⟨gr, 0, none⟩) TR.length cr) TR.length ((atT Q TR).map iv) := own_only h.or_ OT (fun g e1 e2 => by
    injection e1 with e1
    subst e1
    rcases e2 with e2 | e2
    · exact h.fr e2
    · exact hne e2.symm)
  have hlen : Q.length ≤ (Q ++ shD Q.length f).length := by simp
  refine ⟨g7, c7, rfl, Lib.hid ⟨?_, ?_, ?_, by omega, hlr, by omega, HNF7, hgrF, ?_, fun t ht => Nat.lt_of_lt_of_le (h.tr t ht) hlen, under_sh h.und hF.under⟩, Lib.hid (OT.below (by omega) (fun g hg => by
    rcases hg with hg | hg
    · exact (h.bk.lt g hg).1
    · omega))⟩
  · show Bk base w7 base (addF [] (Q ++ shD Q.length f)).1 (bornsOf (addF [] (Q ++ shD Q.length f)).1) vn' vb' vs' _
    rw [addF_sh]
    exact HK7
  · show w7.ownsRow base 3 1 (.slice (some ⟨g7, 0, none⟩) (TL ++ [Q.length + f.length - 1]).length c7) (TL ++ [Q.length + f.length - 1]).length ((atT (Q ++ shD Q.length f) (TL ++ [Q.length + f.length - 1])).map iv)
    rw [atT_step Q TL f hF.pos h.tl, hu, List.map_append, List.length_append]
    exact hown7
  · show w7.ownsRow base 3 1 _ _ ((atT (Q ++ shD Q.length f) TR).map iv)
    rw [atT_keep Q TR f h.tr]
    exact hR
  · intro t ht
    have hp := hF.pos
    simp only [stk, List.mem_append, List.mem_singleton, List.length_append, shD_len] at ht ⊢
    rcases ht with ht | ht
    · have := h.tl t ht; omega
    · omega
end

section
set_option linter.unusedVariables false
set_option linter.unusedSimpArgs false
open Go.RowKit

theorem form_isM (P : List Nd) : (fo (addF [] P).1 ((addF [] P).2.getD (P.length - 1) 0) (bOf (addF [] P).1 ((addF [] P).2.getD (P.length - 1) 0) + 1)).2 = formM P := rfl

/-- a form at its place in a list of forms -/
theorem forms_at {w : World} {lo hi : Nat} {v : Value} {Fs : List (List Nd)} (h : FormsZ w lo hi v (Fs.map (fun f => f.map upN))) {i : Nat} {f : List Nd} (hf : Fs[i]? = some f) :
    ∃ b off c vf, v = .slice (some ⟨b, off, none⟩) Fs.length c ∧ b < hi ∧ w.cell? ⟨b, off + i, none⟩ = some vf ∧ NodesZ w lo hi vf (f.map upN) := by
  obtain ⟨ao, c, rfl, _, h3⟩ := h
  obtain ⟨b, off, vf, rfl, _, hb, p1, i1⟩ := h3 i (f.map upN) (by rw [List.getElem?_map, hf]; rfl)
  exact ⟨b, off, c, vf, by rw [List.length_map], hb, p1, i1⟩

/-- the node on top put in -/
theorem atT_last (Q : List Nd) (L R : List Nat) : (addF [] (Q ++ [(L, R)])).2.getD ((Q ++ [(L, R)]).length - 1) 0 = seat (addF [] Q).1 (sortd (atT Q L), sortd (atT Q R)) := by
  rw [addF_snoc]
  have hl := at_lenP [] Q
  show ((addF [] Q).2 ++ [_]).getD _ 0 = _
  rw [List.length_append, List.length_singleton, Nat.add_sub_cancel, ← hl, getD_snoc_last]
  rfl
theorem atT_book (Q : List Nd) (L R : List Nat) : (addF [] (Q ++ [(L, R)])).1 = bookPut (addF [] Q).1 (sortd (atT Q L), sortd (atT Q R)) := by
  rw [addF_snoc]
  rfl

theorem own_intsM {w : World} {base g n c : Nat} {A : List Nat} (h : w.ownsRow base 3 1 (.slice (some ⟨g, 0, none⟩) n c) n (A.map iv)) (hn : n ≤ 1000000) : IntsZ w g (g + 1) (.slice (some ⟨g, 0, none⟩) n c) (upL A) := (own_intsA h hn).2

set_option maxRecDepth 100000 in
set_option maxHeartbeats 8000000 in
theorem l3Make_calls (vl vr : Value) (ls rs : List (List Nd)) (w : World) (lo hi lo' hi' : Nat) (hh : hi ≤ w.heap.size) (hh' : hi' ≤ w.heap.size) (hl : FormsZ w lo hi vl (ls.map (fun f => f.map upN))) (hr : FormsZ w lo' hi' vr (rs.map (fun f => f.map upN)))
    (hFl : ∀ f ∈ ls, Fit f) (hFr : ∀ f ∈ rs, Fit f) (nl : ls.length ≤ 200) (nr : rs.length ≤ 200) :
    Calls Try.prog 49 #[vl, vr] w fun e w' => ∃ v, e = .returned (.agg #[v]) ∧ NodesZ w' w.heap.size w'.heap.size v ((formM (mkD ls rs)).map upN) ∧ Below w.heap.size w w' := by
  have HL := Lib.hid fun (W : World) (hW : Below w.heap.size w W) => hl.below hW hh
  have HR := Lib.hid fun (W : World) (hW : Below w.heap.size w W) => hr.below hW hh'
  have HFL := Lib.hid hFl
  have HFR := Lib.hid hFr
  obtain ⟨al, cl, hve⟩ : ∃ a c, vl = .slice a ls.length c := by obtain ⟨a, c, e, _⟩ := hl; exact ⟨a, c, by rw [e, List.length_map]⟩
  obtain ⟨ar, cr, hvr⟩ : ∃ a c, vr = .slice a rs.length c := by obtain ⟨a, c, e, _⟩ := hr; exact ⟨a, c, by rw [e, List.length_map]⟩
  subst hve hvr
  have e0 : (w.alloc (.cells #[.slice none 0 0] 24)).heap.size = w.heap.size + 1 := by simp
  have hst := MkS.start (w.alloc (.cells #[.slice none 0 0] 24))
  rw [e0] at hst
  have HST := Lib.hid hst
  have HB0 : Hid (Below w.heap.size w ((((w.alloc (.cells #[.slice none 0 0] 24)).alloc (.cells #[.slice none 0 0, .slice none 0 0] 90)).alloc (.cells #[] 3)).alloc (.cells #[] 3))) :=
    Lib.hid (((((Below.refl _ _).alloc (Nat.le_refl _) _).alloc (by simp) _).alloc (by simp; omega) _).alloc (by simp; omega) _)
  have HQ : Hid (∀ k, k ≤ ls.length → (stkL [] (ls.take k)).1.length ≤ 24000 ∧ (stkL [] (ls.take k)).2.length = k) := Lib.hid (fun k hk => by
    have h1 := stkL_len [] (ls.take k) (fun f hf => (hFl f (List.mem_of_mem_take hf)).most)
    have h2 := stkL_tops [] (ls.take k)
    have h3 : (ls.take k).length = k := by rw [List.length_take]; omega
    rw [h3] at h1 h2
    simp only [List.length_nil] at h1
    omega)
  clear hl hr hFl hFr hst e0
  go_enter Try.func49, Try.ntmps49
  go_wp2
  go_loopw [6, 8] (fun q i wr => ∃ (k g c : Nat) (vn vb : Value) (vs : List (Value × Value)), k ≤ ls.length ∧ i = .int .i64 k ∧ q = .slice (some ⟨g, 0, none⟩) k c ∧ Hid (MkS (w.heap.size + 1) wr (stkL [] (ls.take k)).1 (stkL [] (ls.take k)).2 [] g c (w.heap.size + 3) 0 vn vb vs) ∧
      Hid (Below w.heap.size w wr) ∧ Hid (BoxAt wr w.heap.size (.slice none 0 0))) (fun _ i _ => ls.length - (intOf i).toNat)
  case atStart => exact ⟨0, w.heap.size + 2, 0, _, _, _, Nat.zero_le _, rfl, rfl, by rw [List.take_zero]; exact HST, HB0, Lib.hid ⟨by go_simp, by go_simp⟩⟩
  case round =>
    obtain ⟨k, g, c, vn, vb, vs, hk, rfl, rfl, hS, hb, hx⟩ := hrel
    clear HST HB0
    by_cases hlt : k < ls.length
    · obtain ⟨f, hf⟩ := lt_get hlt
      have hFf := HFL.out f (List.mem_of_getElem? hf)
      obtain ⟨b, off, cc, vf, e, hbh, p1, i1⟩ := forms_at (HL.out wr hb.out) hf
      obtain ⟨q1, q2, q3⟩ := slice_inj e
      clear q2
      subst q1 q3
      obtain ⟨hQl, hTl⟩ := HQ.out k hk
      have HTK := Lib.hid (show stkL [] (ls.take (k + 1)) = stk (stkL [] (ls.take k)) f from by rw [List.take_add_one, hf]; exact stkL_snoc _ _ _)
      obtain ⟨Q, hQ⟩ : ∃ Q, (stkL [] (ls.take k)).1 = Q := ⟨_, rfl⟩
      obtain ⟨T, hT⟩ : ∃ T, (stkL [] (ls.take k)).2 = T := ⟨_, rfl⟩
      have HPR : Hid (stkL [] (ls.take (k + 1)) = stk (Q, T) f) := Lib.hid (by rw [HTK.out, ← hQ, ← hT])
      rw [hQ, hT] at hS
      rw [hQ] at hQl
      rw [hT] at hTl
      obtain ⟨u, hu⟩ : ∃ u, (addF (addF [] Q).1 f).2.getD (f.length - 1) 0 = u := ⟨_, rfl⟩
      have C := Lib.hid (hS.out.root_calls wr (Below.refl _ _) vf f hFf (by omega) lo hi (by omega) i1)
      rw [hu] at C
      have HU := Lib.hid hu
      have HTL := Lib.hid hTl
      have HFF := Lib.hid hFf
      have hbs := hb.out.size
      obtain ⟨_, hgr, hbase⟩ := hS.out.size
      have hfl := hS.out.fl
      have HOL := Lib.hid hS.out.ol
      obtain ⟨i0, hi0, hz0, hz1, hz2⟩ := info_parts infoIntA
      have b0 : (0 : Int) ≤ k := by omega
      have b1 : (k : Int) < ls.length := by omega
      obtain ⟨af, nf, cf, hvf⟩ : ∃ a n c, vf = .slice a n c := by obtain ⟨a, c, e, _⟩ := i1; exact ⟨a, _, c, e⟩
      subst hvf
      clear e i1 hf hQ hT hu hTl HTK hFf
      go_wp2_with fail
      refine C.out.mono ?_
      rintro e w6 ⟨rfl, vn', vb', vs', hK6, ho6, hf6⟩
      have HK6 := Lib.hid hK6
      have HF6 := Lib.hid hf6
      have HO6 := Lib.hid ho6
      have hown6 := Lib.hid (World.ownsRow.alloc (own_only HOL.out ho6 (fun q e => by injection e with e; subst e; exact hfl)) (.cells #[.int .i64 (u : Int)] 3))
      rw [HTL.out] at hown6
      have hs6 := ho6.size
      clear hK6 ho6 hf6 C
      go_wp2_with (at_builtin; refine wpList_append_own_at _ rfl _ _ 53 rfl (w.heap.size + 1) 3 i0 (.int .i64 0) 1 8 Try.underlying53 hi0 hz0 hz1 hz2 rfl (by decide) _ _ _ rfl hown6.out ⟨w6.heap.size, 0, none⟩ 1 1 [iv u] rfl rfl (cell_one_new _ _ _) (by simp [iv, Value.oneCell']) (by unfold maxLen; omega) (by omega) (by simp; omega) ?_; intro v7 w7 hown7 hgrow7 hnil7 hat7)
      obtain ⟨g7, c7, rfl, HS7, HB7⟩ := hS.out.next HFF.out HU.out (Below.refl _ _) HK6.out HO6.out HF6.out (by rw [HTL.out]; exact hown7) (by rw [HTL.out]; exact hgrow7) (by rw [HTL.out]; exact hat7)
      rw [HTL.out]
      have S7 : Hid (MkS (w.heap.size + 1) w7 (stkL [] (ls.take (k + 1))).1 (stkL [] (ls.take (k + 1))).2 [] g7 c7 (w.heap.size + 3) 0 vn' vb' vs') := Lib.hid (by rw [HPR.out]; exact HS7.out)
      have B7 : Hid (Below w.heap.size w w7) := Lib.hid (hb.out.trans (HB7.out.mono (by omega)))
      have X7 : Hid (BoxAt w7 w.heap.size (.slice none 0 0)) := Lib.hid (hx.out.block (HB7.out.block _ (by omega)))
      clear hown7 hgrow7 hnil7 hat7 HS7 HB7 hb hx hS p1 hown6 HK6 HO6 HF6 HOL
      go_wp2
      go_roundw
      case rel => exact ⟨k + 1, g7, c7, vn', vb', vs', by omega, by go_num, rfl, S7, B7, X7⟩
      case measure => simp [intOf]; omega
    · have hkl : k = ls.length := by omega
      subst hkl
      rw [List.take_length] at hS
      obtain ⟨hQ1, hT1⟩ := HQ.out ls.length (Nat.le_refl _)
      rw [List.take_length] at hQ1 hT1
      obtain ⟨Q1, hQe⟩ : ∃ Q, (stkL [] ls).1 = Q := ⟨_, rfl⟩
      obtain ⟨T1, hTe⟩ : ∃ T, (stkL [] ls).2 = T := ⟨_, rfl⟩
      rw [hQe, hTe] at hS
      rw [hQe] at hQ1
      rw [hTe] at hT1
      have HMK : Hid (mkD ls rs = (stkL Q1 rs).1 ++ [(T1, (stkL Q1 rs).2)]) := Lib.hid (by unfold mkD; rw [hQe, hTe])
      have HT1 := Lib.hid hT1
      have HQ2 : Hid (∀ j, j ≤ rs.length → (stkL Q1 (rs.take j)).1.length ≤ 48000 ∧ (stkL Q1 (rs.take j)).2.length = j) := Lib.hid (fun j hj => by
        have h1 := stkL_len Q1 (rs.take j) (fun f hf => (HFR.out f (List.mem_of_mem_take hf)).most)
        have h2 := stkL_tops Q1 (rs.take j)
        have h3 : (rs.take j).length = j := by rw [List.length_take]; omega
        rw [h3] at h1 h2
        omega)
      have HS1 := Lib.hid hS.out.swap
      clear hS hQe hTe hT1
      go_wp2
      go_loopw [7, 9] (fun q i wr => ∃ (j g2 c2 : Nat) (vn vb : Value) (vs : List (Value × Value)), j ≤ rs.length ∧ i = .int .i64 j ∧ q = .slice (some ⟨g2, 0, none⟩) j c2 ∧ Hid (MkS (w.heap.size + 1) wr (stkL Q1 (rs.take j)).1 (stkL Q1 (rs.take j)).2 T1 g2 c2 g c vn vb vs) ∧
          Hid (Below w.heap.size w wr) ∧ Hid (BoxAt wr w.heap.size (.slice none 0 0))) (fun _ i _ => rs.length - (intOf i).toNat)
      case atStart => exact ⟨0, w.heap.size + 3, 0, _, _, _, Nat.zero_le _, rfl, rfl, by rw [List.take_zero]; exact HS1, hb, hx⟩
      case round =>
        clear hb hx HS1 vn vb vs
        obtain ⟨j, g2, c2, vn, vb, vs, hj, rfl, rfl, hS, hb, hx⟩ := hrel
        by_cases hlt : j < rs.length
        · obtain ⟨f, hf⟩ := lt_get hlt
          have hFf := HFR.out f (List.mem_of_getElem? hf)
          obtain ⟨b, off, cc, vf, e, hbh, p1, i1⟩ := forms_at (HR.out wr hb.out) hf
          obtain ⟨q1, q2, q3⟩ := slice_inj e
          clear q2
          subst q1 q3
          obtain ⟨hQl, hTl⟩ := HQ2.out j hj
          have HTK := Lib.hid (show stkL Q1 (rs.take (j + 1)) = stk (stkL Q1 (rs.take j)) f from by rw [List.take_add_one, hf]; exact stkL_snoc _ _ _)
          obtain ⟨Q, hQ⟩ : ∃ Q, (stkL Q1 (rs.take j)).1 = Q := ⟨_, rfl⟩
          obtain ⟨T, hT⟩ : ∃ T, (stkL Q1 (rs.take j)).2 = T := ⟨_, rfl⟩
          have HPR : Hid (stkL Q1 (rs.take (j + 1)) = stk (Q, T) f) := Lib.hid (by rw [HTK.out, ← hQ, ← hT])
          rw [hQ, hT] at hS
          rw [hQ] at hQl
          rw [hT] at hTl
          obtain ⟨u, hu⟩ : ∃ u, (addF (addF [] Q).1 f).2.getD (f.length - 1) 0 = u := ⟨_, rfl⟩
          have C := Lib.hid (hS.out.root_calls wr (Below.refl _ _) vf f hFf (by omega) lo' hi' (by omega) i1)
          rw [hu] at C
          have HU := Lib.hid hu
          have HTL := Lib.hid hTl
          have HFF := Lib.hid hFf
          have hbs := hb.out.size
          obtain ⟨_, hgr, hbase⟩ := hS.out.size
          have hfl := hS.out.fl
          have HOL := Lib.hid hS.out.ol
          obtain ⟨i0, hi0, hz0, hz1, hz2⟩ := info_parts infoIntA
          have b0 : (0 : Int) ≤ j := by omega
          have b1 : (j : Int) < rs.length := by omega
          obtain ⟨af, nf, cf, hvf⟩ : ∃ a n c, vf = .slice a n c := by obtain ⟨a, c, e, _⟩ := i1; exact ⟨a, _, c, e⟩
          subst hvf
          clear e i1 hf hQ hT hu hTl HTK hFf
          go_wp2_with fail
          refine C.out.mono ?_
          rintro e w6 ⟨rfl, vn', vb', vs', hK6, ho6, hf6⟩
          have HK6 := Lib.hid hK6
          have HF6 := Lib.hid hf6
          have HO6 := Lib.hid ho6
          have hown6 := Lib.hid (World.ownsRow.alloc (own_only HOL.out ho6 (fun q e => by injection e with e; subst e; exact hfl)) (.cells #[.int .i64 (u : Int)] 3))
          rw [HTL.out] at hown6
          have hs6 := ho6.size
          clear hK6 ho6 hf6 C
          go_wp2_with (at_builtin; refine wpList_append_own_at _ rfl _ _ 53 rfl (w.heap.size + 1) 3 i0 (.int .i64 0) 1 8 Try.underlying53 hi0 hz0 hz1 hz2 rfl (by decide) _ _ _ rfl hown6.out ⟨w6.heap.size, 0, none⟩ 1 1 [iv u] rfl rfl (cell_one_new _ _ _) (by simp [iv, Value.oneCell']) (by unfold maxLen; omega) (by omega) (by simp; omega) ?_; intro v7 w7 hown7 hgrow7 hnil7 hat7)
          obtain ⟨g7, c7, rfl, HS7, HB7⟩ := hS.out.next HFF.out HU.out (Below.refl _ _) HK6.out HO6.out HF6.out (by rw [HTL.out]; exact hown7) (by rw [HTL.out]; exact hgrow7) (by rw [HTL.out]; exact hat7)
          rw [HTL.out]
          have S7 : Hid (MkS (w.heap.size + 1) w7 (stkL Q1 (rs.take (j + 1))).1 (stkL Q1 (rs.take (j + 1))).2 T1 g7 c7 g c vn' vb' vs') := Lib.hid (by rw [HPR.out]; exact HS7.out)
          have B7 : Hid (Below w.heap.size w w7) := Lib.hid (hb.out.trans (HB7.out.mono (by omega)))
          have X7 : Hid (BoxAt w7 w.heap.size (.slice none 0 0)) := Lib.hid (hx.out.block (HB7.out.block _ (by omega)))
          clear hown7 hgrow7 hnil7 hat7 HS7 HB7 hb hx hS p1 hown6 HK6 HO6 HF6 HOL
          go_wp2
          go_roundw
          case rel => exact ⟨j + 1, g7, c7, vn', vb', vs', by omega, by go_num, rfl, S7, B7, X7⟩
          case measure => simp [intOf]; omega
        · have hje : j = rs.length := by omega
          subst hje
          rw [List.take_length] at hS
          obtain ⟨hQ2, hT2⟩ := HQ2.out rs.length (Nat.le_refl _)
          rw [List.take_length] at hQ2 hT2
          obtain ⟨Q2, hQe⟩ : ∃ Q, (stkL Q1 rs).1 = Q := ⟨_, rfl⟩
          obtain ⟨T2, hTe⟩ : ∃ T, (stkL Q1 rs).2 = T := ⟨_, rfl⟩
          rw [hQe, hTe] at hS HMK
          rw [hQe] at hQ2
          rw [hTe] at hT2
          have HT2 := Lib.hid hT2
          have hbs := hb.out.size
          obtain ⟨hg2, hg1, hbase⟩ := hS.out.size
          have hsl := hS.out.ll
          have hsr := hS.out.lr
          have hal := (addF_len [] Q2).2
          have hal2 : (addF [] Q2).1.length ≤ 48000 := by simp at hal; omega
          have hadd := addF_added [] book_nil Q2 hS.out.und
          have hI1 := own_intsM hS.out.or_ (by rw [HT1.out]; omega)
          have hI2 := own_intsM hS.out.ol (by rw [HT2.out]; omega)
          rw [HT1.out] at hI1
          rw [HT2.out] at hI2
          have hat : ∀ t, t < Q2.length → (addF [] Q2).2.getD t 0 < (addF [] Q2).1.length := fun t ht => by
            obtain ⟨n0, hn0⟩ := lt_get ht
            exact get_lt (hadd.node t n0 hn0)
          have CP := Lib.hid (put_calls (w.heap.size + 1) (w.heap.size + 1) (addF [] Q2).1 vn vb vs (fun q => q = g2 ∨ q = g) (.slice (some ⟨g, 0, none⟩) ls.length c) (.slice (some ⟨g2, 0, none⟩) rs.length c2) (atT Q2 T1) (atT Q2 T2) wr g (g + 1) g2 (g2 + 1) (by omega) (by omega) hS.out.bk (fun q e => by omega) hadd.book.struct.under hI1 hI2
            (fun y hy => by obtain ⟨t, ht, rfl⟩ := List.mem_map.1 hy; exact hat t (hS.out.tr t ht)) (fun y hy => by obtain ⟨t, ht, rfl⟩ := List.mem_map.1 hy; exact hat t (hS.out.tl t ht)) (by omega) (by unfold atT; rw [List.length_map, HT1.out]; omega) (by unfold atT; rw [List.length_map, HT2.out]; omega))
          have hlast := atT_last Q2 T1 T2
          have hbk := atT_book Q2 T1 T2
          rw [← HMK.out] at hlast hbk
          rw [← hlast, ← hbk] at CP
          have hMu : Under (mkD ls rs) := mkD_under HFL.out HFR.out
          have hMl : (mkD ls rs).length ≤ 48001 := by rw [HMK.out]; simp; omega
          have hMp : 0 < (mkD ls rs).length := by rw [HMK.out]; simp
          have hMa := addF_added [] book_nil (mkD ls rs) hMu
          have hMb := (addF_len [] (mkD ls rs)).2
          obtain ⟨M, hM⟩ : ∃ M, mkD ls rs = M := ⟨_, rfl⟩
          have HM := Lib.hid hM
          rw [hM] at CP hMl hMp hMa hMb
          obtain ⟨z, hz⟩ : ∃ z, (addF [] M).2.getD (M.length - 1) 0 = z := ⟨_, rfl⟩
          have hzl : z < (addF [] M).1.length := by
            rw [← hz]
            obtain ⟨n0, hn0⟩ := lt_get (l := M) (i := M.length - 1) (by omega)
            exact get_lt (hMa.node _ n0 hn0)
          have hFI := form_isM M
          rw [hz] at CP hFI
          have HFI := Lib.hid hFI
          have HMB := Lib.hid hMa.book
          have hMb2 : (addF [] M).1.length ≤ 90000 := by simp at hMb; omega
          have HFT := Lib.hid hS.out.bk.lt
          clear hI1 hI2 hadd hat hS hlast hbk hMu hMa hMb hM hz hFI hQe hTe hT2 hal HMK hMp hMl
          go_wp2_with fail
          refine CP.out.mono ?_
          rintro e w6 ⟨rfl, vn', vb', vs', hK6, ho6, hf6⟩
          have hs6 := ho6.size
          have HB6 : Hid (Below (w.heap.size + 1) wr w6) := Lib.hid (ho6.below (by omega) (fun q hq => (HFT.out q hq).1))
          have CF := Lib.hid (form_calls (w.heap.size + 1) (w.heap.size + 1) (addF [] M).1 vn' vb' vs' (fun q => q = g2 ∨ q = g) z w6 hK6 HMB.out hzl hMb2)
          rw [HFI.out] at CF
          obtain ⟨G, hG⟩ : ∃ G, (formM M).map upN = G := ⟨_, rfl⟩
          have HG := Lib.hid hG
          rw [hG] at CF
          have hx6 := hx.out.block (HB6.out.block _ (by omega))
          have HB6' := Lib.hid (hb.out.trans (HB6.out.mono (by omega)))
          have hs6w := HB6'.out.size
          clear hK6 ho6 hf6 CP hG hx hb
          go_wp2_with fail
          refine CF.out.mono ?_
          rintro e w5 ⟨v, rfl, hn5, hb5⟩
          obtain ⟨d5, z5⟩ := hx6.below hb5
          have hlt1 := block_of_cell hx6.1
          have HB5 : Hid (Below w.heap.size w (w5.setCell ⟨w.heap.size, 0, none⟩ v)) := Lib.hid ((HB6'.out.trans (hb5.mono hs6w)).setCell (Nat.le_refl _) _)
          have HN : Hid (NodesZ (w5.setCell ⟨w.heap.size, 0, none⟩ v) w.heap.size (w5.setCell ⟨w.heap.size, 0, none⟩ v).heap.size v G) := Lib.hid ((NodesZ.keep hn5 (fun b o h1 h2 => World.cell?_setCell_other _ _ _ _ (fun e => by injection e with e _ _; omega))).wide hs6w (by simp))
          have hcr := World.cell?_setCell_same w5 ⟨w.heap.size, 0, none⟩ v d5
          obtain ⟨av, cv, rfl, _⟩ := (show ∃ a c, v = .slice a G.length c ∧ True from by obtain ⟨a, c, e, _⟩ := hn5; exact ⟨a, c, e, trivial⟩)
          clear hn5 hb5 CF hx6
          go_wp2_with fail
          refine bodyPost_ret (v := .agg #[.slice av G.length cv]) (by simp [results, Try.results49, go_sem, hcr]) rfl ?_
          rw [HM.out, HG.out]
          exact ⟨_, rfl, HN.out, HB5.out⟩
end

section
section
open Go.RowKit
set_option linter.unusedVariables false
set_option linter.unusedSimpArgs false

theorem slice_form {w : World} {lo hi : Nat} {v : Value} {f : List Nz} (h : NodesZ w lo hi v f) : ∃ a c, v = .slice a f.length c := by obtain ⟨a, c, e, _⟩ := h; exact ⟨a, c, e⟩

theorem l3If_calls (v : Value) (f : List Nz) (ok : Bool) (hok : Hid (fitsB f = ok)) (w : World) (lo hi : Nat) (hh : hi ≤ w.heap.size) (hv : NodesZ w lo hi v f) :
    Calls Try.prog 44 #[.agg #[v]] w fun e w' => e = .returned (.tuple #[.agg #[if ok then v else .slice none 0 0], .bool ok]) ∧ Below w.heap.size w w' := by
  have HB0 := Lib.hid fun o o' => show Below w.heap.size w ((w.alloc o).alloc o') from ((Below.refl _ _).alloc (Nat.le_refl _) _).alloc (by simp) _
  have C := Lib.hid fun (W : World) (hW : Below w.heap.size w W) => show Calls Try.prog 69 #[.agg #[v]] W fun e w' => e = .returned (.bool ok) ∧ Below W.heap.size W w' from by
    rw [← hok.out]
    exact fitsS_calls v f W lo hi (Nat.le_trans hh hW.size) (hv.below hW hh)
  obtain ⟨av, cv, rfl⟩ := slice_form hv
  clear hok hv
  go_enter Try.func44, Try.ntmps44
  go_wp2_with fail
  refine (C.out _ (HB0.out _ _)).mono ?_
  rintro e w4 ⟨rfl, hb4⟩
  have k0 : w4.cell? ⟨w.heap.size, 0, none⟩ = some (.slice av f.length cv) := (bcell hb4 _ _ (by simp; omega)).trans (by go_simp)
  obtain ⟨d0, z0⟩ : BoxAt w4 (w.heap.size + 1) (.slice none 0 0) := BoxAt.below ⟨by go_simp, by go_simp⟩ hb4
  have HB4 := Lib.hid (Below.trans (HB0.out _ _) (hb4.mono (by simp; omega)))
  have hlt := block_of_cell d0
  clear hb4 C
  cases ok with
  | false =>
    have B4 := Lib.hid (HB4.out.setCell (p := ⟨w.heap.size + 1, 0, none⟩) (by show w.heap.size ≤ w.heap.size + 1; omega) (.slice none 0 0))
    have hcr := World.cell?_setCell_same w4 ⟨w.heap.size + 1, 0, none⟩ (.slice none 0 0) d0
    go_wp2_with fail
    exact bodyPost_ret (v := .tuple #[.agg #[.slice none 0 0], .bool false]) (by simp [results, Try.results44, go_sem, hcr]) rfl ⟨rfl, B4.out⟩
  | true =>
    have B4 := Lib.hid (HB4.out.setCell (p := ⟨w.heap.size + 1, 0, none⟩) (by show w.heap.size ≤ w.heap.size + 1; omega) (.slice av f.length cv))
    have hcr := World.cell?_setCell_same w4 ⟨w.heap.size + 1, 0, none⟩ (.slice av f.length cv) d0
    go_wp2_with fail
    exact bodyPost_ret (v := .tuple #[.agg #[.slice av f.length cv], .bool true]) (by simp [results, Try.results44, go_sem, hcr]) rfl ⟨rfl, B4.out⟩

theorem fitsN_B (P : List Nd) : fitsN P = fitsB (P.map upN) := by
  have h1 := fitsN_iff P
  have h2 := fitsB_iff (P.map upN)
  cases hN : fitsN P <;> cases hB : fitsB (P.map upN)
  · rfl
  · rw [h2] at hB; rw [h1.2 hB] at hN; exact hN.symm
  · rw [h1] at hN; rw [h2.2 hN] at hB; exact hB
  · rfl

end
end

section
open Go.RowKit
set_option linter.unusedVariables false
set_option linter.unusedSimpArgs false

/-- a list of numbers that lies apart from some blocks -/
def IntsV (w : World) (X : Nat → Prop) (u : Value) (l : List Int) : Prop := ∃ lo hi, hi ≤ w.heap.size ∧ (∀ g, X g → g < lo ∨ hi ≤ g) ∧ IntsZ w lo hi u l

theorem IntsV.only {w w' : World} {X F : Nat → Prop} {u : Value} {l : List Int} (h : IntsV w X u l) (ho : Only w w' F) (hF : ∀ g, g < w.heap.size → F g → X g) : IntsV w' X u l := by
  obtain ⟨lo, hi, h1, h2, h3⟩ := h
  exact ⟨lo, hi, Nat.le_trans h1 ho.size, h2, h3.keep (fun b o e1 e2 => ho.cell (by omega) (fun e => by have := h2 b (hF b (by omega) e); omega))⟩
theorem IntsV.below {w w' : World} {X : Nat → Prop} {u : Value} {l : List Int} (h : IntsV w X u l) (hb : Below w.heap.size w w') : IntsV w' X u l := h.only (Only.of_below (F := fun _ => False) hb) (fun _ _ h => h.elim)
theorem IntsV.reX {w : World} {X Y : Nat → Prop} {u : Value} {l : List Int} (h : IntsV w X u l) (hY : ∀ g, g < w.heap.size → Y g → X g) : IntsV w Y u l := by
  obtain ⟨lo, hi, h1, h2, h3⟩ := h
  refine ⟨lo, hi, h1, fun g hg => ?_, h3⟩
  rcases Nat.lt_or_ge g w.heap.size with h4 | h4
  · exact h2 g (hY g h4 hg)
  · right; omega
theorem IntsV.ints {w : World} {X : Nat → Prop} {u : Value} {l : List Int} (h : IntsV w X u l) : IntsZ w 0 w.heap.size u l := by
  obtain ⟨lo, hi, h1, h2, h3⟩ := h
  exact h3.wide (Nat.zero_le _) h1
theorem IntsV.one {w : World} {X : Nat → Prop} {u : Value} {l : List Int} (h : IntsV w X u l) : u.oneCell' = true := by
  obtain ⟨_, _, _, _, ao, c, rfl, _⟩ := h
  rfl

/-- the blocks that a pile's lists lie apart from -/
def PX (v : Value) (X : Nat → Prop) (g : Nat) : Prop := v.ownBlock = some g ∨ X g

structure PileZ (w : World) (base : Nat) (v : Value) (vs : List (Value × Value)) (F : List Nz) (X : Nat → Prop) : Prop where
  row : w.ownsRow base 73 2 v F.length (rowN2 vs)
  len : vs.length = F.length
  list : ∀ (j : Nat) (nd : Nz) (p : Value × Value), F[j]? = some nd → vs[j]? = some p → IntsV w (PX v X) p.1 nd.1 ∧ IntsV w (PX v X) p.2 nd.2

theorem PileZ.lt {w : World} {base : Nat} {v : Value} {vs : List (Value × Value)} {F : List Nz} {X : Nat → Prop} (h : PileZ w base v vs F X) : ∀ g, v.ownBlock = some g → base ≤ g ∧ g < w.heap.size := World.ownsRow.lt h.row
theorem PileZ.below {w w' : World} {base : Nat} {v : Value} {vs : List (Value × Value)} {F : List Nz} {X : Nat → Prop} (h : PileZ w base v vs F X) (hb : Below w.heap.size w w') : PileZ w' base v vs F X :=
  ⟨own_only h.row (Only.of_below (F := fun _ => False) hb) (fun _ _ => id), h.len, fun j nd p h1 h2 => ⟨(h.list j nd p h1 h2).1.below hb, (h.list j nd p h1 h2).2.below hb⟩⟩
theorem PileZ.only {w w' : World} {base : Nat} {v : Value} {vs : List (Value × Value)} {F : List Nz} {X : Nat → Prop} (h : PileZ w base v vs F X) (ho : Only w w' X) (hd : ∀ g, v.ownBlock = some g → ¬ X g) : PileZ w' base v vs F X :=
  ⟨own_only h.row ho hd, h.len, fun j nd p h1 h2 => ⟨(h.list j nd p h1 h2).1.only ho (fun _ _ e => Or.inr e), (h.list j nd p h1 h2).2.only ho (fun _ _ e => Or.inr e)⟩⟩
theorem PileZ.reX {w : World} {base : Nat} {v : Value} {vs : List (Value × Value)} {F : List Nz} {X Y : Nat → Prop} (h : PileZ w base v vs F X) (hY : ∀ g, g < w.heap.size → Y g → X g) : PileZ w base v vs F Y :=
  ⟨h.row, h.len, fun j nd p h1 h2 => ⟨(h.list j nd p h1 h2).1.reX (fun g hg e => e.imp id (hY g hg)), (h.list j nd p h1 h2).2.reX (fun g hg e => e.imp id (hY g hg))⟩⟩
theorem PileZ.mono {w : World} {base base' : Nat} {v : Value} {vs : List (Value × Value)} {F : List Nz} {X : Nat → Prop} (h : PileZ w base v vs F X) (hb : base' ≤ base) : PileZ w base' v vs F X := ⟨World.ownsRow.mono h.row hb, h.len, h.list⟩
theorem PileZ.nil (w : World) (base : Nat) (X : Nat → Prop) : PileZ w base (.slice none 0 0) [] [] X := ⟨World.ownsRow_nil _ _ _ _, rfl, fun j nd p h => by simp at h⟩
theorem PileZ.shape {w : World} {base : Nat} {v : Value} {vs : List (Value × Value)} {F : List Nz} {X : Nat → Prop} (h : PileZ w base v vs F X) : ∃ a c, v = .slice a F.length c := by
  rcases h.row.2 with ⟨h1, h0⟩ | ⟨g, c, cs, h1, _⟩
  · exact ⟨none, 0, by rw [h1, h0]⟩
  · exact ⟨_, _, h1⟩

theorem PileZ.snoc {w w' : World} {base : Nat} {v v' : Value} {vs : List (Value × Value)} {F : List Nz} {X : Nat → Prop} {p : Value × Value} {nd : Nz} (h : PileZ w base v vs F X) (hg : w.grownBy w' v.ownBlock)
    (hn : w'.ownsRow base 73 2 v' (F.length + 1) (rowN2 vs ++ [p.1, p.2])) (hat : v'.ownBlock = v.ownBlock ∨ v'.ownBlock = some w.heap.size) (h1 : IntsV w (PX v X) p.1 nd.1) (h2 : IntsV w (PX v X) p.2 nd.2) : PileZ w' base v' (vs ++ [p]) (F ++ [nd]) X := by
  have ho : Only w w' (fun b => v.ownBlock = some b) := Only.of_grown hg (fun g e => e)
  have go : ∀ {u : Value} {l : List Int}, IntsV w (PX v X) u l → IntsV w' (PX v' X) u l := fun hi => by
    have h0 : IntsV w (PX v' X) _ _ := hi.reX (Y := PX v' X) (fun g hg e => by
      rcases e with e | e
      · rcases hat with e2 | e2
        · exact Or.inl (e2 ▸ e)
        · rw [e2] at e; injection e with e; omega
      · exact Or.inr e)
    obtain ⟨lo, hi', a1, a2, a3⟩ := hi
    refine ⟨lo, hi', Nat.le_trans a1 hg.size, fun g e => ?_, a3.keep (fun b o e1 e2 => ho.cell (by omega) (fun e => by have := a2 b (Or.inl e); omega))⟩
    rcases e with e | e
    · rcases hat with e2 | e2
      · exact a2 g (Or.inl (e2 ▸ e))
      · rw [e2] at e; injection e with e; omega
    · exact a2 g (Or.inr e)
  refine ⟨by rw [rowN2_snoc, List.length_append]; exact hn, by simp [h.len], fun j n0 q hj hq => ?_⟩
  rcases get_snoc hj with hj1 | ⟨ej, rfl⟩
  · rcases get_snoc hq with hq1 | ⟨eq, _⟩
    · have hl := h.list j n0 q hj1 hq1
      exact ⟨go hl.1, go hl.2⟩
    · exfalso
      have := get_lt hj1
      have := h.len
      omega
  · rcases get_snoc hq with hq1 | ⟨_, eq⟩
    · exfalso
      have := get_lt hq1
      have := h.len
      omega
    · rw [eq]
      exact ⟨go h1, go h2⟩

/-- a list made later lies apart from what was there -/
theorem intsV_own {w w1 w' : World} {base base1 : Nat} {q u : Value} {vs : List (Value × Value)} {F : List Nz} {X : Nat → Prop} {l : List Int} (hq : PileZ w base q vs F X) (hX : ∀ g, X g → g < w.heap.size) (ho : OwnI w1 base1 u l) (h1 : w.heap.size ≤ base1) (hb : Below w1.heap.size w1 w') : IntsV w' (PX q X) u l :=
  ⟨base1, w1.heap.size, hb.size, fun g e => Or.inl (by
    rcases e with e | e
    · have := (hq.lt g e).2; omega
    · have := hX g e; omega), ho.ints.below hb (Nat.le_refl _)⟩

theorem PileZ.nodesZ {w : World} {base : Nat} {v : Value} {vs : List (Value × Value)} {F : List Nz} {X : Nat → Prop} (h : PileZ w base v vs F X) : NodesZ w 0 w.heap.size v F := by
  rcases h.row.2 with ⟨h1, h0⟩ | ⟨g, c, cs, h1, _⟩
  · have hl : F = [] := List.length_eq_zero_iff.1 h0
    subst hl
    exact ⟨none, 0, by rw [h1]; rfl, by simp, fun j nd hj => by simp at hj⟩
  · subst h1
    have hn := h.row
    have hlt := World.ownsRow.lt hn _ rfl
    refine ⟨_, c, rfl, World.ownsRow.caps hn, fun j nd hj => ?_⟩
    have hjl := get_lt hj
    obtain ⟨p, hp⟩ := lt_get (l := vs) (i := j) (by rw [h.len]; exact hjl)
    have hr := rowN2_at vs j p hp
    obtain ⟨i1, i2⟩ := h.list j nd p hj hp
    refine ⟨g, 0, p.1, p.2, rfl, Nat.zero_le _, hlt.2, ?_, ?_, i1.ints, i2.ints⟩
    · rw [Nat.zero_add, World.ownsRow.cellAt hn (j * 2) (by omega)]; exact hr.1
    · rw [Nat.zero_add, World.ownsRow.cellAt hn (j * 2 + 1) (by omega)]; exact hr.2

/-- where the lists lie -/
theorem IntsV.low {w : World} {X : Nat → Prop} {u : Value} {l : List Int} {m : Nat} (h : IntsV w X u l) (hX : ∀ g, g < m → X g) : IntsZ w m w.heap.size u l := by
  obtain ⟨lo, hi, h1, h2, ao, c, e, h3, h4⟩ := h
  refine ⟨ao, c, e, h3, fun j x hx => ?_⟩
  obtain ⟨b, off, e1, e2, e3, e4⟩ := h4 j x hx
  refine ⟨b, off, e1, ?_, by omega, e4⟩
  rcases Nat.lt_or_ge b m with h5 | h5
  · have := h2 b (hX b h5); omega
  · exact h5
theorem PileZ.nodesL {w : World} {base m : Nat} {v : Value} {vs : List (Value × Value)} {F : List Nz} {X : Nat → Prop} (h : PileZ w base v vs F X) (hm : m ≤ base) (hX : ∀ g, g < m → X g) : NodesZ w m w.heap.size v F := by
  rcases h.row.2 with ⟨h1, h0⟩ | ⟨g, c, cs, h1, _⟩
  · have hl : F = [] := List.length_eq_zero_iff.1 h0
    subst hl
    exact ⟨none, 0, by rw [h1]; rfl, by simp, fun j nd hj => by simp at hj⟩
  · subst h1
    have hn := h.row
    have hlt := World.ownsRow.lt hn _ rfl
    refine ⟨_, c, rfl, World.ownsRow.caps hn, fun j nd hj => ?_⟩
    have hjl := get_lt hj
    obtain ⟨p, hp⟩ := lt_get (l := vs) (i := j) (by rw [h.len]; exact hjl)
    have hr := rowN2_at vs j p hp
    obtain ⟨i1, i2⟩ := h.list j nd p hj hp
    refine ⟨g, 0, p.1, p.2, rfl, Nat.le_trans hm hlt.1, hlt.2, ?_, ?_, i1.low (fun g hg => Or.inr (hX g hg)), i2.low (fun g hg => Or.inr (hX g hg))⟩
    · rw [Nat.zero_add, World.ownsRow.cellAt hn (j * 2) (by omega)]; exact hr.1
    · rw [Nat.zero_add, World.ownsRow.cellAt hn (j * 2 + 1) (by omega)]; exact hr.2

theorem shift_wrap (x m : Nat) (h : x + m ≤ 1000000) : IntKind.i64.wrap ((x : Int) + (m : Int)) = ((x + m : Nat) : Int) := by
  rw [← Int.natCast_add]
  exact IntWalk.i64_in _ (by omega)

/-- the shifted numbers so far, and zeros -/
def shiftP (l : List Nat) (m k : Nat) : List Int := upL ((l.take k).map (· + m)) ++ List.replicate (l.length - k) 0
theorem shiftP_len (l : List Nat) (m k : Nat) (h : k ≤ l.length) : (shiftP l m k).length = l.length := by unfold shiftP upL; simp; omega
theorem shiftP_set (l : List Nat) (m k x : Nat) (h : l[k]? = some x) : (shiftP l m k).set k ((x + m : Nat) : Int) = shiftP l m (k + 1) := by
  have hk := get_lt h
  unfold shiftP
  have e1 : (upL ((l.take k).map (· + m))).length = k := by unfold upL; simp; omega
  rw [List.set_append_right _ _ (by rw [e1]; exact Nat.le_refl _), e1, Nat.sub_self, show l.length - k = (l.length - (k + 1)) + 1 from by omega, List.replicate_succ, List.set_cons_zero, List.take_add_one, h, List.map_append]
  unfold upL
  simp
theorem shiftP_all (l : List Nat) (m : Nat) : shiftP l m l.length = upL (l.map (· + m)) := by simp [shiftP]

set_option maxRecDepth 100000 in
set_option maxHeartbeats 1000000 in
theorem shifted_calls (v : Value) (l : List Nat) (m : Nat) (w : World) (lo hi : Nat) (hh : hi ≤ w.heap.size) (hv : IntsZ w lo hi v (upL l)) (hl : l.length ≤ 1000) (hx : ∀ x ∈ l, x + m ≤ 1000000) :
    Calls Try.prog 63 #[v, .int .i64 m] w fun e w' => ∃ g, e = .returned (.slice (some ⟨g, 0, none⟩) l.length l.length) ∧ OwnI w' w.heap.size (.slice (some ⟨g, 0, none⟩) l.length l.length) (upL (l.map (· + m))) ∧ Below w.heap.size w w' := by
  obtain ⟨i0, hi0, hz0, hz1, hz2⟩ := info_parts infoIntA
  obtain ⟨at', ct, rfl, hct⟩ := ints_lenP hv
  have HV := Lib.hid hv
  have HX := Lib.hid hx
  clear hv hx
  go_enter Try.func63, Try.ntmps63
  go_wp2_with (at_make; refine wpList_make_full _ rfl _ _ 53 rfl w.heap.size 3 i0 (.int .i64 0) 1 Try.underlying53 hi0 hz0 hz1 _ _ _ _ l.length rfl rfl rfl rfl (by rw [hz2]; omega) (by unfold maxLen; omega) (Nat.le_refl _) ?_; intro w1 hown hg)
  have HO : Hid (OwnI w1 w.heap.size (.slice (some ⟨w.heap.size, 0, none⟩) l.length l.length) (shiftP l m 0)) := Lib.hid (by
    have e : (madeCells (Value.int .i64 0).cells (l.length * 1)).toList = List.replicate l.length (.int .i64 0) := by
      show (madeCells #[Value.int .i64 0] (l.length * 1)).toList = _
      rw [Nat.mul_one, made_one]
    rw [e] at hown
    unfold OwnI
    rw [shiftP_len l m 0 (Nat.zero_le _)]
    simpa [shiftP, upL] using hown)
  have HB : Hid (Below w.heap.size w w1) := Lib.hid ((Below.refl _ _).grown hg (Nat.le_refl _) (fun k hk => by cases hk))
  clear hown hg
  go_wp2
  go_loopw [13] (fun i wr => ∃ k : Nat, k ≤ l.length ∧ i = .int .i64 k ∧ Hid (OwnI wr w.heap.size (.slice (some ⟨w.heap.size, 0, none⟩) l.length l.length) (shiftP l m k)) ∧ Hid (Below w.heap.size w wr)) (fun i _ => l.length - (intOf i).toNat)
  case atStart => exact ⟨0, Nat.zero_le _, rfl, HO, HB⟩
  case round =>
    obtain ⟨k, hk, rfl, ho, hb⟩ := hrel
    clear HO HB
    by_cases hlt : k < l.length
    · obtain ⟨x, hx⟩ := lt_get hlt
      obtain ⟨b1, o1, rfl, _, q1⟩ := ints_atP (HV.out.below hb.out hh) hx
      have hxm := HX.out x (List.mem_of_getElem? hx)
      have hwr := shift_wrap x m hxm
      obtain ⟨y, hy⟩ := lt_get (l := shiftP l m k) (i := k) (by rw [shiftP_len l m k hk]; exact hlt)
      have hat := ho.out.at_ hy
      have hput := (ho.out.put (x := k) (v := ((x + m : Nat) : Int)))
      rw [shiftP_set l m k x hx] at hput
      obtain ⟨qc, qf⟩ := hat
      have R1 := Lib.hid hput.1
      have R2 : Hid (Below w.heap.size w (wr.setCell ⟨w.heap.size, k, none⟩ (.int .i64 ((x + m : Nat) : Int)))) := Lib.hid (hb.out.setCell (Nat.le_refl _) _)
      have k0 : (0 : Int) ≤ k := by omega
      have k1 : (k : Int) < l.length := by omega
      clear hput ho hb hx hy
      go_wp2
      go_roundw
      case rel => exact ⟨k + 1, by omega, by go_num, R1, R2⟩
      case measure => first | (simp [intOf]; done) | (simp [intOf]; omega)
    · have hke : k = l.length := by omega
      subst hke
      have HF : Hid (OwnI wr w.heap.size (.slice (some ⟨w.heap.size, 0, none⟩) l.length l.length) (upL (l.map (· + m)))) := Lib.hid (by have h := ho.out; rw [shiftP_all] at h; exact h)
      clear ho
      go_wp2
      go_ret
      exact ⟨_, rfl, HF.out, hb.out⟩
end

section
set_option linter.unusedVariables false
set_option linter.unusedSimpArgs false

/-- the first nodes of a star -/
def starT (k : Nat) : List Nd := (List.range k).map fun j => (List.range j, List.range j)
theorem starT_len (k : Nat) : (starT k).length = k := by simp [starT]
theorem starT_succ (k : Nat) : starT (k + 1) = starT k ++ [(List.range k, List.range k)] := by simp [starT, List.range_succ]
theorem starT_at {k j : Nat} (h : j < k) : (starT k)[j]? = some (List.range j, List.range j) := by unfold starT; rw [List.getElem?_map, List.getElem?_range h]; rfl

/-- nodes of which each is born on the day of its number -/
def Line (P : List Nd) : Prop := ∀ (k : Nat) (nd : Nd), P[k]? = some nd → lastOf (fun x => x) nd = k

theorem line_born {P : List Nd} (h : Line P) (hu : Under P) : ∀ k, k < P.length → bOf P k = k := by
  have hb := births_bOf P hu
  intro k
  induction k using Nat.strongRecOn with
  | ind k ih =>
    intro hk
    obtain ⟨nd, hnd⟩ := lt_get hk
    rw [hb k nd hnd, lastOf_congr (bOf P) (fun x => x) nd (fun x hx => by
      have := hu k nd hnd x hx
      exact ih x this (by omega))]
    exact h k nd hnd

theorem line_rising {P : List Nd} (h : Line P) (hu : Under P) : RisingBy P (bOf P) := fun k x y hx hy => by
  left
  have h1 := get_lt hy
  rw [line_born h hu k (by omega), line_born h hu (k + 1) h1]
  omega

theorem line_snoc {P : List Nd} {nd : Nd} (h : Line P) (hn : lastOf (fun x => x) nd = P.length) : Line (P ++ [nd]) := fun k x hk => by
  rcases Nat.lt_or_ge k P.length with hlt | hge
  · rw [List.getElem?_append_left hlt] at hk
    exact h k x hk
  · rw [List.getElem?_append_right hge] at hk
    have h0 := get_lt hk
    simp at h0
    rw [show k - P.length = 0 from by omega] at hk
    simp only [List.getElem?_cons_zero, Option.some.injEq] at hk
    subst hk
    rw [hn]
    omega

theorem struct_snoc {P : List Nd} {nd : Nd} (h : Struct P) (h1 : nd.1.Pairwise (· < ·)) (h2 : nd.2.Pairwise (· < ·)) (h3 : ∀ x, x ∈ nd.1 ∨ x ∈ nd.2 → x < P.length) : Struct (P ++ [nd]) := fun k x hk => by
  rcases Nat.lt_or_ge k P.length with hlt | hge
  · rw [List.getElem?_append_left hlt] at hk
    exact h k x hk
  · rw [List.getElem?_append_right hge] at hk
    have h0 := get_lt hk
    simp at h0
    rw [show k - P.length = 0 from by omega] at hk
    simp only [List.getElem?_cons_zero, Option.some.injEq] at hk
    subst hk
    exact ⟨h1, h2, fun x hx => by have := h3 x hx; omega⟩

theorem used_snoc {P : List Nd} {nd : Nd} (h : Used P) (hn : 0 < P.length → P.length - 1 ∈ nd.1 ∨ P.length - 1 ∈ nd.2) : Used (P ++ [nd]) := fun i hi => by
  rw [List.length_append, List.length_singleton] at hi
  rcases Nat.lt_or_ge (i + 1) P.length with hlt | hge
  · obtain ⟨k, x, hk, hx⟩ := h i hlt
    exact ⟨k, x, by rw [List.getElem?_append_left (get_lt hk)]; exact hk, hx⟩
  · refine ⟨P.length, nd, by simp, ?_⟩
    rw [show i = P.length - 1 from by omega]
    exact hn (by omega)

/-- what is asked of nodes that are a good form, each born on its own day -/
structure LineF (P : List Nd) : Prop where
  line : Line P
  struct : Struct P
  used : Used P
  small : ∀ nd ∈ P, nd.1.length ≤ 24 ∧ nd.2.length ≤ 24
  first : P[0]? = some ([], [])

theorem LineF.pos {P : List Nd} (h : LineF P) : 0 < P.length := get_lt h.first

theorem LineF.snoc {P : List Nd} {nd : Nd} (h : LineF P) (hl : lastOf (fun x => x) nd = P.length) (h1 : nd.1.Pairwise (· < ·)) (h2 : nd.2.Pairwise (· < ·)) (h3 : ∀ x, x ∈ nd.1 ∨ x ∈ nd.2 → x < P.length) (h4 : P.length - 1 ∈ nd.1 ∨ P.length - 1 ∈ nd.2) (h5 : nd.1.length ≤ 24 ∧ nd.2.length ≤ 24) : LineF (P ++ [nd]) :=
  ⟨line_snoc h.line hl, struct_snoc h.struct h1 h2 h3, used_snoc h.used (fun _ => h4), fun x hx => by
    rcases List.mem_append.1 hx with hx | hx
    · exact h.small x hx
    · rw [List.mem_singleton] at hx; subst hx; exact h5, by rw [List.getElem?_append_left h.pos]; exact h.first⟩

theorem last_range (k : Nat) : lastOf (fun x => x) (List.range k, List.range k) = k := by
  refine Nat.le_antisymm (lastOf_le _ _ _ (fun x hx => by simpa using hx)) ?_
  cases k with
  | zero => exact Nat.zero_le _
  | succ k => exact lastOf_lt (fun x => x) (List.range (k + 1), List.range (k + 1)) k (Or.inl (List.mem_range.2 (Nat.lt_succ_self k)))

theorem range_asc (k : Nat) : (List.range k).Pairwise (· < ·) := List.pairwise_lt_range

theorem starT_good (k : Nat) (hk : k ≤ 24) : LineF (starT (k + 1)) := by
  induction k with
  | zero =>
    refine ⟨fun k nd hk => ?_, fun k nd hk => ?_, fun i hi => by rw [starT_len] at hi; omega, fun nd hnd => ?_, rfl⟩
    · have h0 := get_lt hk
      rw [starT_len] at h0
      rw [starT_at h0] at hk
      injection hk with hk
      subst hk
      exact last_range k
    · have h0 := get_lt hk
      rw [starT_len] at h0
      rw [starT_at h0] at hk
      injection hk with hk
      subst hk
      exact ⟨range_asc k, range_asc k, fun x hx => by simpa using hx⟩
    · simp [starT] at hnd
      subst hnd
      exact ⟨Nat.zero_le _, Nat.zero_le _⟩
  | succ k ih =>
    rw [starT_succ (k + 1)]
    have hl := starT_len (k + 1)
    refine (ih (by omega)).snoc (by rw [last_range, hl]) (range_asc _) (range_asc _) (fun x hx => by rw [hl]; simpa using hx) (Or.inl (by rw [hl]; simp)) ?_
    simp
    omega

/-- the nodes of ups and a star -/
def upD : Nat → Nat → List Nd
  | 0, s => starT (s + 1)
  | u + 1, s => if u = 0 ∧ s = 1 then starT 2 ++ [([0, 1], [0])] else upD u (s ^^^ 1) ++ [([0], [(upD u (s ^^^ 1)).length - 1])]

theorem upD_zero (s : Nat) : upD 0 s = starT (s + 1) := rfl
theorem upD_one : upD 1 1 = starT 2 ++ [([0, 1], [0])] := rfl
theorem upD_step (u s : Nat) (h : ¬ (u = 0 ∧ s = 1)) : upD (u + 1) s = upD u (s ^^^ 1) ++ [([0], [(upD u (s ^^^ 1)).length - 1])] := by
  rw [upD, if_neg h]

theorem xor_small {s : Nat} (h : s ≤ 15) : s ^^^ 1 ≤ 15 := by
  have := Nat.xor_lt_two_pow (n := 4) (x := s) (y := 1) (by omega) (by omega)
  omega

theorem last_up (m : Nat) (h : 0 < m) : lastOf (fun x => x) ([0], [m - 1]) = m := by
  unfold lastOf
  simp
  omega

theorem upD_good (u s : Nat) (hu : u ≤ 12) (hs : s ≤ 15) : LineF (upD u s) ∧ (upD u s).length ≤ u + 16 := by
  induction u generalizing s with
  | zero => exact ⟨starT_good s (by omega), by rw [upD_zero, starT_len]; omega⟩
  | succ u ih =>
    by_cases h : u = 0 ∧ s = 1
    · obtain ⟨rfl, rfl⟩ := h
      rw [upD_one]
      refine ⟨(starT_good 1 (by omega)).snoc (by decide) (by decide) (by decide) (fun x hx => by simp [starT_len] at hx ⊢; omega) (by rw [starT_len]; simp) (by decide), by simp [starT_len]⟩
    · rw [upD_step u s h]
      obtain ⟨h1, h2⟩ := ih (s ^^^ 1) (by omega) (xor_small hs)
      have hp := h1.pos
      refine ⟨h1.snoc (last_up _ hp) (by simp) (by simp) (fun x hx => ?_) (Or.inr (by simp)) (by simp), by simp; omega⟩
      simp at hx
      omega

theorem upD_starts (u s : Nat) (hu : u ≤ 12) (hs : s ≤ 15) : ∃ m, (upD u s).length = m + 1 := ⟨(upD u s).length - 1, by have := (upD_good u s hu hs).1.pos; omega⟩

/-- nodes that each fall to a node of nodes in order -/
theorem canon_via {P out : List Nd} {pl : Nat → Nat} (hu : Under P) (hs : Struct out) (hr : RisingBy out (bOf out)) (hn : ∀ (k : Nat) (nd : Nd), P[k]? = some nd → out[pl k]? = some (movd pl nd)) (hsur : ∀ i, i < out.length → ∃ k, k < P.length ∧ pl k = i) : Canon P (bOf P) (fun _ => True) out pl := by
  have hbP := births_bOf P hu
  have hbo := births_bOf out hs.under
  have hb : ∀ k, k < P.length → bOf out (pl k) = bOf P k := by
    intro k
    induction k using Nat.strongRecOn with
    | ind k ih =>
      intro hk
      obtain ⟨nd, hnd⟩ := lt_get hk
      rw [hbP k nd hnd, hbo (pl k) _ (hn k nd hnd)]
      exact lastOf_map (bOf P) (bOf out) pl nd (fun x hx => by
        have := hu k nd hnd x hx
        exact ih x this (by omega))
  have hp : ∀ k, k < P.length → pl k < out.length := fun k hk => by
    obtain ⟨nd, hnd⟩ := lt_get hk
    exact get_lt (hn k nd hnd)
  have hc := canon_of_rising hs hbo hr.rising
  refine ⟨fun k nd hk _ => hn k nd hk, fun i hi => ?_, fun k j hk hj _ _ h => ?_, fun k j x y hk hj _ _ h hx hy hl => ?_, fun k j hk hj _ _ h => ?_⟩
  · obtain ⟨k, h1, h2⟩ := hsur i hi
    exact ⟨k, h1, trivial, h2⟩
  · exact hc.born (pl k) (pl j) (hp k hk) (hp j hj) trivial trivial (by rw [hb k hk, hb j hj]; exact h)
  · exact hc.ahead (pl k) (pl j) x y (hp k hk) (hp j hj) trivial trivial (by rw [hb k hk, hb j hj]; exact h) hx hy hl
  · exact hc.once (pl k) (pl j) (hp k hk) (hp j hj) trivial trivial h

theorem LineF.rising {P : List Nd} (h : LineF P) : RisingBy P (bOf P) := line_rising h.line h.struct.under

theorem LineF.fit {P : List Nd} (h : LineF P) (hl : P.length ≤ 120) : Fit P := ⟨h.pos, hl, h.struct.under, h.used, h.small⟩

theorem LineF.goodB {P : List Nd} (h : LineF P) (hl : P.length ≤ 120) : goodB (P.map upN) = true := by
  refine (goodB_iff _).2 ⟨⟨by simpa using h.pos, by simpa using hl, fun nd hnd => ?_⟩, structZ_up h.struct, ?_, ?_⟩
  · obtain ⟨x, hx, rfl⟩ := List.mem_map.1 hnd
    have := h.small x hx
    simpa [upN, upL] using this
  · rw [down_up]; exact h.rising
  · rw [down_up]; exact h.used

def zeroD : List Nd := [([], [])]
theorem zeroD_star : zeroD = starT 1 := rfl
theorem zero_fit : Fit zeroD := (starT_good 0 (by omega)).fit (by decide)

/-- the model's up on a game -/
theorem up_make {f : List Nd} (h : LineF f) (hl : f.length ≤ 100) : formM (mkD [zeroD] [f]) = f ++ [([0], [f.length - 1])] := by
  have hp := h.pos
  have hg : LineF (f ++ [([0], [f.length - 1])]) := h.snoc (last_up _ hp) (by simp) (by simp) (fun x hx => by simp at hx; omega) (Or.inr (by simp)) (by simp)
  have e : mkD [zeroD] [f] = [([], [])] ++ shD 1 f ++ [([0], [f.length])] := by
    have e1 : stkL [] [zeroD] = ([([], [])], [0]) := by simp [stkL, stk, zeroD, shD]
    unfold mkD
    rw [e1]
    have e2 : stkL [([], [])] [f] = ([([], [])] ++ shD 1 f, [1 + f.length - 1]) := by simp [stkL, stk]
    rw [e2]
    dsimp only
    rw [show 1 + f.length - 1 = f.length from by omega]
  have hfz : ∀ g ∈ [zeroD], Fit g := fun g hg => by simp at hg; subst hg; exact zero_fit
  have hff : ∀ g ∈ [f], Fit g := fun g hg => by simp at hg; subst hg; exact h.fit (by omega)
  have hu := mkD_under hfz hff
  have hlen : (mkD [zeroD] [f]).length = f.length + 2 := by rw [e]; simp only [List.length_append, shD_len, List.length_singleton]; omega
  refine (order_is hu (by omega) (mkD_reach hfz hff) (canon_via (pl := fun k => k - 1) hu hg.struct hg.rising (fun k nd hk => ?_) (fun i hi => ?_))).symm
  · rw [e] at hk
    rcases Nat.lt_or_ge k (f.length + 1) with hlt | hge
    · rw [List.getElem?_append_left (by simp [shD_len]; omega)] at hk
      cases k with
      | zero =>
        simp at hk
        subst hk
        rw [List.getElem?_append_left (by simpa using hp)]
        exact h.first
      | succ k =>
        simp at hk
        obtain ⟨x, hx, rfl⟩ := shD_get hk
        rw [show k + 1 - 1 = k from by omega, List.getElem?_append_left (get_lt hx), hx]
        have hid := movd_id h.struct hx
        unfold movd at hid ⊢
        simp only [List.map_map, Function.comp_def, Nat.add_sub_cancel]
        rw [← hid]
        simp only [List.map_id']
        rw [sortd_id _ (sortd_asc _), sortd_id _ (sortd_asc _)]
    · rw [List.getElem?_append_right (by simp [shD_len]; omega)] at hk
      have h0 := get_lt hk
      simp [shD_len] at h0
      have hk0 : k = f.length + 1 := by omega
      subst hk0
      simp [shD_len] at hk
      subst hk
      rw [show f.length + 1 - 1 = f.length from by omega]
      simp [movd, sortd, putN]
  · refine ⟨i + 1, ?_, by omega⟩
    rw [hlen]
    simp at hi
    omega

theorem up_star : formM (mkD [zeroD, starT 2] [zeroD]) = starT 2 ++ [([0, 1], [0])] := by decide

theorem up_next (u s : Nat) (hu : u + 1 ≤ 12) (hs : s ≤ 15) (h : ¬ (u = 0 ∧ s = 1)) : formM (mkD [zeroD] [upD u (s ^^^ 1)]) = upD (u + 1) s := by
  obtain ⟨h1, h2⟩ := upD_good u (s ^^^ 1) (by omega) (xor_small hs)
  rw [up_make h1 (by omega), upD_step u s h]
end

section
set_option linter.unusedVariables false
set_option linter.unusedSimpArgs false
open Go.RowKit

/-- an append without room, at a step of a region that draws -/
theorem step_app_full {ops : Array Oper} {o : Oper} {a : Act} {w : World} {K : Act → World → Prop} {Q : Exit → Act → World → Prop} {E : Prop} (hgd : o.guard = none) (s x : Operand)
    (ho : o.op = .call { callee := .builtin .append, args := #[s, x], argTypes := #[53, 53] })
    {ao : Option Addr} {n : Nat} {olds : List Value} (hs : a.eval s = .slice ao n n) (hnone : ao = none → n = 0) (hlo : olds.length = n) (holds : ∀ b, ao = some b → ∀ j u, olds[j]? = some u → w.cell? (b.add j) = some u)
    {B u : Nat} (hx : a.eval x = .slice (some ⟨B, 0, none⟩) 1 1) (hc : w.cell? ⟨B, 0, none⟩ = some (.int .i64 (u : Int))) (hsmall : n + 1 ≤ 3000000)
    (h : ∀ v' w', w'.ownsRow w.heap.size 3 1 v' (n + 1) (olds ++ [iv u]) → w.grownBy w' none → K (a.put o.dst v') w') :
    if Region.wanted o (yielded ops a.tmps) = true then Oper.wp Try.prog o a w K Q else E := by
  obtain ⟨i0, hi0, hz0, hz1, hz2⟩ := info_parts infoIntA
  have hw : Region.wanted o (yielded ops a.tmps) = true := by simp [Region.wanted, hgd]
  rw [if_pos hw]
  have hnews : ∀ j v, [iv u][j]? = some v → w.cell? ((⟨B, 0, none⟩ : Addr).add j) = some v := fun j v hj => by
    have h0 := get_lt hj
    simp at h0
    subst h0
    simp at hj
    subst hj
    simpa [Addr.add, iv] using hc
  cases ao with
  | some b =>
    obtain ⟨v', w', hr, h2, h3⟩ := run_append_arg_grows (P := Try.prog) w 53 o.type 3 i0 (.int .i64 0) 1 8 Try.underlying53 hi0 hz0 hz1 hz2 rfl (by decide) b n n olds (by omega) (holds b rfl) ⟨B, 0, none⟩ 1 1 [iv u] rfl hnews (by omega) (by unfold maxLen; omega) (by omega)
    unfold Oper.wp execOp
    simp only [ho, resolve, invoke, builtin, Sem.run_bind, Sem.run_pure, Result.andThen_ok, List.map_toArray, List.map_cons, List.map_nil, hs, hx, hr]
    exact h v' w' h2 h3
  | none =>
    obtain rfl := hnone rfl
    obtain rfl : olds = [] := List.eq_nil_of_length_eq_zero (by omega)
    obtain ⟨v', w', hr, h2, h3, _⟩ := run_append_own (P := Try.prog) w w.heap.size 53 o.type 3 i0 (.int .i64 0) 1 8 Try.underlying53 hi0 hz0 hz1 hz2 rfl (by decide) (.slice none 0 0) 0 [] (World.ownsRow_nil w _ _ _) ⟨B, 0, none⟩ 1 1 [iv u] rfl hnews (fun v hv => by simp at hv; subst hv; rfl) (by unfold maxLen; omega) (by omega) (Nat.le_refl _)
    unfold Oper.wp execOp
    simp only [ho, resolve, invoke, builtin, Sem.run_bind, Sem.run_pure, Result.andThen_ok, List.map_toArray, List.map_cons, List.map_nil, hs, hx, hr]
    exact h v' w' h2 h3

theorem OwnF.node_atS {w : World} {base k g n c : Nat} {vs : List (Value × Value)} {f : List Nz} {nd : Nz} (h : OwnF w base (.slice (some ⟨g, 0, none⟩) n c) vs f) (hn : f.length = n) (hk : f[k]? = some nd) :
    ∃ p, vs[k]? = some p ∧ w.cell? ⟨g, k * 2, none⟩ = some p.1 ∧ w.cell? ⟨g, k * 2 + 1, none⟩ = some p.2 ∧ OwnI w base p.1 nd.1 ∧ OwnI w base p.2 nd.2 := by
  subst hn
  have hkl := get_lt hk
  obtain ⟨p, hp⟩ := lt_get (l := vs) (i := k) (by rw [h.len]; exact hkl)
  have hr := rowN2_at vs k p hp
  exact ⟨p, hp, (World.ownsRow.cellAt h.nodes (k * 2) (by omega)).trans hr.1, (World.ownsRow.cellAt h.nodes (k * 2 + 1) (by omega)).trans hr.2, h.list k nd p hk hp⟩

/-- a row of the call's own, as an append without room reads it -/
theorem OwnI.holds {w : World} {base c : Nat} {a : Option Addr} {l : List Int} (h : OwnI w base (.slice a l.length c) l) : (a = none → l.length = 0) ∧ l.length ≤ c ∧ c ≤ 9223372036854775807 ∧ ∀ b, a = some b → ∀ j u, (l.map (Value.int .i64))[j]? = some u → w.cell? (b.add j) = some u := by
  rcases h.2 with ⟨h1, h0⟩ | ⟨g, c', cs, h1, _⟩
  · injection h1 with e1 e2 e3
    subst e1 e3
    exact ⟨fun _ => h0, by omega, by omega, fun b e => by cases e⟩
  · injection h1 with e1 e2 e3
    subst e1 e3
    have hc := World.ownsRow.caps h
    refine ⟨(fun e => by cases e), hc.1, hc.2, fun b e j u hj => ?_⟩
    injection e with e
    subst e
    exact World.ownsRow.cells h (g := g) rfl j u hj

theorem shift_wrapS (x : Nat) (h : x ≤ 1000000) : IntKind.i64.wrap ((x : Int) + 1) = ((x + 1 : Nat) : Int) := by
  rw [show (x : Int) + 1 = ((x + 1 : Nat) : Int) from rfl]
  exact IntWalk.i64_in _ (by omega)

/-- a star's nodes -/
def starZ (n : Nat) : List Nz := (starT (n + 1)).map upN
theorem starZ_len (n : Nat) : (starZ n).length = n + 1 := by simp [starZ, starT_len]
theorem starZ_at {n k : Nat} (h : k ≤ n) : (starZ n)[k]? = some (upL (List.range k), upL (List.range k)) := by
  unfold starZ
  rw [List.getElem?_map, starT_at (by omega)]
  rfl
theorem partZ_at {f : List Nz} {m k : Nat} {nd : Nz} (h : f[k]? = some nd) (hm : k < m) : (partZ f m)[k]? = some nd := by
  have hk := get_lt h
  unfold partZ
  rw [List.getElem?_append_left (by simp; omega), List.getElem?_take_of_lt hm, h]
theorem starZ_first (n : Nat) : partZ (starZ n) 1 = List.replicate (n + 1) ([], []) := by
  have h0 := starZ_at (n := n) (k := 0) (Nat.zero_le _)
  unfold partZ
  rw [starZ_len, List.take_add_one, List.take_zero, h0, Nat.add_sub_cancel, List.replicate_succ]
  rfl

theorem twoC_below {g o o' : Nat} {v1 v2 : Value} {W w1 : World} (hb : Below W.heap.size W w1) (h : W.cell? ⟨g, o, none⟩ = some v1 ∧ W.cell? ⟨g, o', none⟩ = some v2) : w1.cell? ⟨g, o, none⟩ = some v1 ∧ w1.cell? ⟨g, o', none⟩ = some v2 :=
  ⟨(bcell hb _ _ (block_of_cell h.1)).trans h.1, (bcell hb _ _ (block_of_cell h.2)).trans h.2⟩

theorem twoC_set {g k : Nat} {v1 v2 u1 u2 : Value} {W : World} (h : W.cell? ⟨g, k * 2, none⟩ = some v1 ∧ W.cell? ⟨g, k * 2 + 1, none⟩ = some v2) : ((W.setCell ⟨g, (k + 1) * 2, none⟩ u1).setCell ⟨g, (k + 1) * 2 + 1, none⟩ u2).cell? ⟨g, k * 2, none⟩ = some v1 ∧ ((W.setCell ⟨g, (k + 1) * 2, none⟩ u1).setCell ⟨g, (k + 1) * 2 + 1, none⟩ u2).cell? ⟨g, k * 2 + 1, none⟩ = some v2 := by
  refine ⟨?_, ?_⟩
  · rw [World.cell?_setCell_other _ _ _ _ (fun e => by injection e with _ e _; omega), World.cell?_setCell_other _ _ _ _ (fun e => by injection e with _ e _; omega)]
    exact h.1
  · rw [World.cell?_setCell_other _ _ _ _ (fun e => by injection e with _ e _; omega), World.cell?_setCell_other _ _ _ _ (fun e => by injection e with _ e _; omega)]
    exact h.2

/-- a row made without room -/
theorem ownI_new {w : World} {B k : Nat} {v : Value} {X : List Value} (hX : (upL (List.range k)).map (Value.int .i64) = X) (h : w.ownsRow B 3 1 v (k + 1) (X ++ [iv k])) : OwnI w B v (upL (List.range (k + 1))) := by
  have e : upL (List.range (k + 1)) = upL (List.range k) ++ [(k : Int)] := by unfold upL; rw [List.range_succ, List.map_append]; rfl
  have hl : (upL (List.range k)).length = k := by rw [upL_len, List.length_range]
  unfold OwnI
  rw [e, List.map_append, hX, List.length_append, hl]
  exact h

theorem lit2_first (w : World) (v : Value) (t : TypeId) (o : Obj) : ((w.alloc (.cells #[v] t)).alloc o).cell? ⟨w.heap.size, 0, none⟩ = some v := by
  have hb : Below (w.alloc (.cells #[v] t)).heap.size (w.alloc (.cells #[v] t)) ((w.alloc (.cells #[v] t)).alloc o) := (Below.refl _ _).alloc (Nat.le_refl _) _
  exact (bcell hb _ _ (by simp)).trans (by go_simp)
theorem lit2_second (w : World) (v : Value) (t : TypeId) (o : Obj) : ((w.alloc o).alloc (.cells #[v] t)).cell? ⟨w.heap.size + 1, 0, none⟩ = some v := by
  have hz : (w.alloc o).heap.size = w.heap.size + 1 := by simp
  rw [← hz]
  go_simp

theorem below_via {a W b : World} (h : Below a.heap.size a W) (g : Below W.heap.size W b) : Below a.heap.size a b := h.trans (g.mono h.size)

set_option maxRecDepth 100000 in
set_option maxHeartbeats 4000000 in
theorem starI_calls (n : Nat) (hn : n ≤ 1000) (w : World) :
    Calls Try.prog 84 #[.int .i64 n] w fun e w' => ∃ g vs, e = .returned (.slice (some ⟨g, 0, none⟩) (n + 1) (n + 1)) ∧ OwnF w' w.heap.size (.slice (some ⟨g, 0, none⟩) (n + 1) (n + 1)) vs (starZ n) ∧ Below w.heap.size w w' := by
  obtain ⟨iN, hiN, hzN0, hzN1, hzN2⟩ := info_parts infoNodeA
  have hw0 : IntKind.i64.wrap ((n : Int) + 1) = ((n + 1 : Nat) : Int) := shift_wrapS n (by omega)
  go_enter Try.func84, Try.ntmps84
  go_wp2_with (at_make; refine wpList_make_full _ rfl _ _ 22 rfl w.heap.size 73 iN (.agg #[.slice none 0 0, .slice none 0 0]) 2 Try.underlying22 hiN hzN0 hzN1 _ _ _ _ (n + 1) rfl rfl (by first | rfl | (simp; done) | go_num) (by first | rfl | (simp; done) | go_num) (by rw [hzN2]; omega) (by unfold maxLen; omega) (Nat.le_refl _) ?_; intro w1 hown hg)
  have HT : Hid (OwnF w1 w.heap.size (.slice (some ⟨w.heap.size, 0, none⟩) (n + 1) (n + 1)) (List.replicate (n + 1) (.slice none 0 0, .slice none 0 0)) (partZ (starZ n) 1)) := Lib.hid (by rw [starZ_first]; exact ownF_made hown)
  have HB : Hid (Below w.heap.size w w1) := Lib.hid ((Below.refl _ _).grown hg (Nat.le_refl _) (fun k hk => by cases hk))
  clear hown hg hw0
  go_wp2
  go_loopw [9] (fun i wr => ∃ (k : Nat) (vs : List (Value × Value)), k ≤ n ∧ i = .int .i64 k ∧ Hid (OwnF wr w.heap.size (.slice (some ⟨w.heap.size, 0, none⟩) (n + 1) (n + 1)) vs (partZ (starZ n) (k + 1))) ∧ Hid (Below w.heap.size w wr)) (fun i _ => n - (intOf i).toNat)
  case atStart => exact ⟨0, _, Nat.zero_le _, rfl, HT, HB⟩
  case round =>
    obtain ⟨k, vs, hk, rfl, ht, hb⟩ := hrel
    clear HT HB
    by_cases hlt : k < n
    · have hz := starZ_len n
      have hpl := partZ_len (starZ n) (k + 1) (by omega)
      obtain ⟨p, hp, c1, c2, o1, o2⟩ := ht.out.node_atS (by omega) (partZ_at (starZ_at (n := n) (k := k) (by omega)) (Nat.lt_succ_self k))
      obtain ⟨v1, v2⟩ := p
      obtain ⟨a1, d1, hv1⟩ := o1.form
      obtain ⟨a2, d2, hv2⟩ := o2.form
      dsimp only at c1 c2 o1 o2 hv1 hv2
      subst hv1 hv2
      obtain ⟨hno1, hle1, hcm1, hh1⟩ := o1.holds
      obtain ⟨hno2, hle2, hcm2, hh2⟩ := o2.holds
      have hrl : (upL (List.range k)).length = k := by rw [upL_len, List.length_range]
      rw [hrl] at c1 c2 hno1 hle1 hno2 hle2
      obtain ⟨X, hX⟩ : ∃ X, (upL (List.range k)).map (Value.int .i64) = X := ⟨_, rfl⟩
      rw [hX] at hh1 hh2
      have HX := Lib.hid hX
      have hXl : Hid (X.length = k) := Lib.hid (by rw [← hX, List.length_map, hrl])
      have o1lt := o1.lt
      have o2lt := o2.lt
      have hbs := hb.out.size
      have hgw : w.heap.size < wr.heap.size := (World.ownsRow.lt ht.out.nodes _ rfl).2
      have HH1 := Lib.hid fun (W : World) (hW : Below wr.heap.size wr W) => show ∀ b, a1 = some b → ∀ j u, X[j]? = some u → W.cell? (b.add j) = some u from fun b e j u hj => by
        have h0 := hh1 b e j u hj
        subst e
        have h1 := (o1lt b.block rfl).2
        exact (hW.cell (p := b.add j) (by unfold Addr.add; split <;> exact h1)).trans h0
      have HH2 := Lib.hid fun (W : World) (hW : Below wr.heap.size wr W) => show ∀ b, a2 = some b → ∀ j u, X[j]? = some u → W.cell? (b.add j) = some u from fun b e j u hj => by
        have h0 := hh2 b e j u hj
        subst e
        have h1 := (o2lt b.block rfl).2
        exact (hW.cell (p := b.add j) (by unfold Addr.add; split <;> exact h1)).trans h0
      have HN1 := Lib.hid hno1
      have HN2 := Lib.hid hno2
      have hwk := shift_wrapS k (by omega)
      have k0 : (0 : Int) ≤ k := by omega
      have k1 : (k : Int) < n := by omega
      have k2 : (k : Int) ≤ d1 := by omega
      have k3 : (k : Int) ≤ d2 := by omega
      clear hno1 hno2 hh1 hh2 o1 o2 o1lt o2lt hp hX hrl hz hpl
      have k4 : (k : Int) < (n : Int) + 1 := by omega
      have k5 : (k : Int) + 1 < (n : Int) + 1 := by omega
      have k6 : (0 : Int) ≤ (k : Int) + 1 := by omega
      have k7 : ((k : Int) + 1).toNat = k + 1 := by omega
      have bl0 : Below wr.heap.size wr wr.drew := below_drewN (Below.refl _ _) 1
      have bl1 := fun o => show Below wr.heap.size wr (wr.drew.alloc o) from bl0.alloc (Nat.le_refl _) _
      have bl2 := fun o o' => show Below wr.heap.size wr ((wr.drew.alloc o).alloc o') from (bl1 o).alloc (by simp) _
      have hS0 : wr.drew.cell? ⟨w.heap.size, k * 2, none⟩ = some (.slice a1 k d1) ∧ wr.drew.cell? ⟨w.heap.size, k * 2 + 1, none⟩ = some (.slice a2 k d2) := ⟨c1, c2⟩
      have HT := Lib.hid ht.out
      have HPL := Lib.hid (partZ_len (starZ n) (k + 1) (by rw [starZ_len]; omega))
      have HPZ := Lib.hid (HPL.out.trans (starZ_len n))
      go_wp2
      go_region_held3 (fun w' : World => w'.cell? ⟨w.heap.size, k * 2, none⟩ = some (.slice a1 k d1) ∧ w'.cell? ⟨w.heap.size, k * 2 + 1, none⟩ = some (.slice a2 k d2)) (first | exact hS0 | (go_split_ands; exact ⟨‹_›, ‹_›⟩) | (go_split_ands; exact twoC_below hbg5 ⟨‹_›, ‹_›⟩) | (go_split_ands; exact twoC_below hbg6 ⟨‹_›, ‹_›⟩) | (go_split_ands; exact twoC_set ⟨‹_›, ‹_›⟩) | (go_split_ands; exact twoC_below ((Below.refl _ _).alloc (Nat.le_refl _) _) ⟨‹_›, ‹_›⟩)) (first
        | (refine step_app_full rfl (.tmp 22) (.tmp 24) rfl (ao := a1) (n := k) (olds := X) rfl HN1.out hXl.out (HH1.out _ (bl2 _ _)) (B := _) (u := k) rfl (by go_simp) (by omega) ?_; intro v5 w5 hown5 hgrow5; obtain ⟨g5, c5, rfl, _, hg5⟩ := hown5.form (by omega); have hbg5 : Below _ _ w5 := (Below.refl _ _).grown hgrow5 (Nat.le_refl _) (fun q hq => by cases hq); have HB5 : Below wr.heap.size wr w5 := below_via (bl2 _ _) hbg5; have hJ5 := Lib.hid ((ownI_new HX.out hown5).mono (bl2 _ _).size); have hl0 : w5.cell? ⟨wr.heap.size, 0, none⟩ = some (.int .i64 (k : Int)) := (bcell hbg5 _ _ (by simp; omega)).trans (lit2_first wr _ _ _); have hl1 : w5.cell? ⟨wr.heap.size + 1, 0, none⟩ = some (.int .i64 (k : Int)) := (bcell hbg5 _ _ (by simp)).trans (lit2_second wr _ _ _))
        | (refine step_app_full rfl (.tmp 22) (.tmp 24) rfl (ao := a1) (n := k) (olds := X) rfl HN1.out hXl.out (HH1.out _ (bl1 _)) (B := _) (u := k) rfl (by go_simp) (by omega) ?_; intro v5 w5 hown5 hgrow5; obtain ⟨g5, c5, rfl, _, hg5⟩ := hown5.form (by omega); have hbg5 : Below _ _ w5 := (Below.refl _ _).grown hgrow5 (Nat.le_refl _) (fun q hq => by cases hq); have HB5 : Below wr.heap.size wr w5 := below_via (bl1 _) hbg5; have hJ5 := Lib.hid ((ownI_new HX.out hown5).mono (bl1 _).size))
        | (refine step_app_full rfl (.tmp 33) (.tmp 35) rfl (ao := a2) (n := k) (olds := X) rfl HN2.out hXl.out (HH2.out _ (by first | exact HB5 | exact below_via HB5 ((Below.refl _ _).alloc (Nat.le_refl _) _))) (B := _) (u := k) rfl (by first | assumption | go_simp) (by omega) ?_; intro v6 w6 hown6 hgrow6; obtain ⟨g6, c6, rfl, hlo6, hg6⟩ := hown6.form (by omega); have hW2 : w5.heap.size ≤ g6 := (by first | exact hlo6 | (have h := hlo6; simp at h; omega)); have hbv : Below w5.heap.size w5 w6 := (by first | exact (Below.refl _ _).grown hgrow6 (Nat.le_refl _) (fun q hq => by cases hq) | exact below_via ((Below.refl _ _).alloc (Nat.le_refl _) _) ((Below.refl _ _).grown hgrow6 (Nat.le_refl _) (fun q hq => by cases hq))); have hbg6 : Below _ _ w6 := (Below.refl _ _).grown hgrow6 (Nat.le_refl _) (fun q hq => by cases hq); have HB6 : Below wr.heap.size wr w6 := below_via (by first | exact HB5 | exact below_via HB5 ((Below.refl _ _).alloc (Nat.le_refl _) _)) hbg6; obtain ⟨⟨x1, e1⟩, ⟨x2, e2⟩, hfz⟩ := (HT.out.below HB6).cell (k := k + 1) HPZ.out (by omega); have f1 := hfz ((k + 1) * 2); have f2 := hfz ((k + 1) * 2 + 1)))
      all_goals
        have hz5 := HB5.size
        have J5 := hJ5.out.below hbv
        have J6 := (ownI_new HX.out hown6).mono (base' := wr.heap.size) (by first | exact HB5.size | exact Nat.le_trans HB5.size (by simp))
        have HT2 : OwnF wr w.heap.size (.slice (some ⟨w.heap.size, 0, none⟩) (starZ n).length (n + 1)) vs (partZ (starZ n) (k + 1)) := by rw [starZ_len]; exact HT.out
        have R1' := HT2.next (p := (.slice (some ⟨g5, 0, none⟩) (k + 1) c5, .slice (some ⟨g6, 0, none⟩) (k + 1) c6)) (starZ_at (n := n) (k := k + 1) (by omega)) HB6 hbs J5 J6 (fun q e3 e4 => by
          have h3 := own_eqp e3
          have h4 := own_eqp e4
          omega)
        rw [starZ_len] at R1'
        have R1 := Lib.hid R1'
        have R2 : Hid (Below w.heap.size w ((w6.setCell ⟨w.heap.size, (k + 1) * 2, none⟩ (.slice (some ⟨g5, 0, none⟩) (k + 1) c5)).setCell ⟨w.heap.size, (k + 1) * 2 + 1, none⟩ (.slice (some ⟨g6, 0, none⟩) (k + 1) c6))) := Lib.hid (((hb.out.trans (HB6.mono hbs)).setCell (Nat.le_refl _) _).setCell (Nat.le_refl _) _)
        clear hown5 hgrow5 hbg5 HB5 hown6 hgrow6 hbg6 HB6 J5 J6 HT2 R1' hbv ht HT hb hJ5 e1 e2 hfz f1 f2 hwk
        go_wp2
        go_roundw
        case rel => exact ⟨k + 1, _, by omega, by go_num, R1, R2⟩
        case measure => first | (simp [intOf]; done) | (simp [intOf]; omega)
    · have hke : k = n := by omega
      subst hke
      have HF : Hid (OwnF wr w.heap.size (.slice (some ⟨w.heap.size, 0, none⟩) (k + 1) (k + 1)) vs (starZ k)) := Lib.hid (by
        have h := ht.out
        have h2 := partZ_all (starZ k)
        rw [starZ_len] at h2
        rw [h2] at h
        exact h)
      clear ht
      go_wp2
      go_ret
      exact ⟨_, _, rfl, HF.out, hb.out⟩
end

section
set_option linter.unusedVariables false
set_option linter.unusedSimpArgs false
open Go.RowKit

theorem xor_bits : ∀ s : Nat, s ≤ 15 → bits .xor .i64 (s : Int) 1 = ((s ^^^ 1 : Nat) : Int) := by
  have h : ∀ s : Fin 16, bits .xor .i64 ((s.1 : Nat) : Int) 1 = ((s.1 ^^^ 1 : Nat) : Int) := by decide
  intro s hs
  exact h ⟨s, by omega⟩

theorem ownI_lit (w : World) (base : Nat) (l : List Int) (cs : Array Value) (hc : cs.toList = l.map (Value.int .i64)) (hl : l.length ≤ 1000) (hb : base ≤ w.heap.size) : OwnI (w.alloc (.cells cs 3)) base (.slice (some ⟨w.heap.size, 0, none⟩) l.length l.length) l := by
  have hs : cs.size = l.length * 1 := by rw [← Array.length_toList, hc, List.length_map]; omega
  have h := World.ownsRow_lit (base := base) (e := 3) (size := 1) w cs l.length hb (by unfold maxLen; omega) hs
  rw [hc] at h
  exact h

/-- a node with new lists on top of a form of the call's own -/
theorem ownF_top {w w7 : World} {base : Nat} {v v7 : Value} {vs : List (Value × Value)} {f : List Nz} {l1 l2 : List Int} {c1 c2 : Array Value} (h : OwnF w base v vs f) (hb : base ≤ w.heap.size) (h1 : c1.toList = l1.map (Value.int .i64)) (h2 : c2.toList = l2.map (Value.int .i64)) (s1 : l1.length ≤ 1000) (s2 : l2.length ≤ 1000)
    (hg : (((w.alloc (.cells c1 3)).alloc (.cells c2 3)).alloc (.cells #[.slice (some ⟨w.heap.size, 0, none⟩) l1.length l1.length, .slice (some ⟨w.heap.size + 1, 0, none⟩) l2.length l2.length] 73)).grownBy w7 v.ownBlock)
    (hn : w7.ownsRow base 73 2 v7 (f.length + 1) (rowN2 vs ++ [.slice (some ⟨w.heap.size, 0, none⟩) l1.length l1.length, .slice (some ⟨w.heap.size + 1, 0, none⟩) l2.length l2.length]))
    (hat : v7.ownBlock = v.ownBlock ∨ v7.ownBlock = some (((w.alloc (.cells c1 3)).alloc (.cells c2 3)).alloc (.cells #[.slice (some ⟨w.heap.size, 0, none⟩) l1.length l1.length, .slice (some ⟨w.heap.size + 1, 0, none⟩) l2.length l2.length] 73)).heap.size) :
    OwnF w7 base v7 (vs ++ [(.slice (some ⟨w.heap.size, 0, none⟩) l1.length l1.length, .slice (some ⟨w.heap.size + 1, 0, none⟩) l2.length l2.length)]) (f ++ [(l1, l2)]) ∧ Below base w w7 := by
  have z1 : (w.alloc (.cells c1 3)).heap.size = w.heap.size + 1 := by simp
  have b1 : Below w.heap.size w (w.alloc (.cells c1 3)) := (Below.refl _ _).alloc (Nat.le_refl _) _
  have b2 : Below (w.alloc (.cells c1 3)).heap.size (w.alloc (.cells c1 3)) ((w.alloc (.cells c1 3)).alloc (.cells c2 3)) := (Below.refl _ _).alloc (Nat.le_refl _) _
  have b3 : Below ((w.alloc (.cells c1 3)).alloc (.cells c2 3)).heap.size ((w.alloc (.cells c1 3)).alloc (.cells c2 3)) (((w.alloc (.cells c1 3)).alloc (.cells c2 3)).alloc (.cells #[.slice (some ⟨w.heap.size, 0, none⟩) l1.length l1.length, .slice (some ⟨w.heap.size + 1, 0, none⟩) l2.length l2.length] 73)) := (Below.refl _ _).alloc (Nat.le_refl _) _
  have o1 := ownI_lit w base l1 c1 h1 s1 hb
  have o2 := ownI_lit (w.alloc (.cells c1 3)) base l2 c2 h2 s2 (by omega)
  rw [z1] at o2
  have b12 := below_via b1 b2
  have b123 := below_via b12 b3
  have hlt := fun g (e : v.ownBlock = some g) => (World.ownsRow.lt h.nodes g e).2
  have fresh : ∀ (b n : Nat), w.heap.size ≤ b → Apart v (.slice (some ⟨b, 0, none⟩) n n) := fun b n hb g e1 e2 => by
    have := hlt g e1
    have := own_eqp e2
    omega
  have hfar : ∀ (i : Nat) (q : Value × Value), vs[i]? = some q → ∀ (b n : Nat), w.heap.size ≤ b → Apart (.slice (some ⟨b, 0, none⟩) n n) q.1 ∧ Apart (.slice (some ⟨b, 0, none⟩) n n) q.2 := fun i q hq b n hb => by
    obtain ⟨nd, hnd⟩ := lt_get (l := f) (i := i) (by rw [← h.len]; exact get_lt hq)
    have hl := h.list i nd q hnd hq
    exact ⟨fun g e1 e2 => by have := (hl.1.lt g e2).2; have := own_eqp e1; omega, fun g e1 e2 => by have := (hl.2.lt g e2).2; have := own_eqp e1; omega⟩
  refine ⟨(h.below b123).snoc (p := (.slice (some ⟨w.heap.size, 0, none⟩) l1.length l1.length, .slice (some ⟨w.heap.size + 1, 0, none⟩) l2.length l2.length)) (nd := (l1, l2)) hg hn hat (o1.below (below_via b2 b3)) (o2.below b3) (fun g e1 e2 => ?_) (fresh _ _ (Nat.le_refl _)) (fresh _ _ (by omega)) (fun i q hq => ⟨hfar i q hq _ _ (Nat.le_refl _), hfar i q hq _ _ (by omega)⟩), ?_⟩
  · have := own_eqp e1
    have := own_eqp e2
    omega
  · exact (b123.mono hb).trans ((Only.of_grown (F := fun g => v.ownBlock = some g) hg (fun g e => e)).below (by have := b123.size; omega) (fun g e => (World.ownsRow.lt h.nodes g e).1))

theorem new3 (w : World) (o1 o2 o3 : Obj) : (((w.alloc o1).alloc o2).alloc o3).heap[w.heap.size + 1 + 1]? = some o3 := by
  have h := heap_alloc_new ((w.alloc o1).alloc o2) o3
  rw [show ((w.alloc o1).alloc o2).heap.size = w.heap.size + 1 + 1 from by simp] at h
  exact h

def OwnPost (w : World) (P : List Nd) (e : Ending) (w' : World) : Prop := ∃ a c vs, e = .returned (.slice a P.length c) ∧ OwnF w' w.heap.size (.slice a P.length c) vs (P.map upN) ∧ Below w.heap.size w w'

theorem len_lessU (n : Nat) (h0 : 0 < n) (h : n ≤ 1000000) : IntKind.i64.wrap ((n : Int) - 1) = ((n - 1 : Nat) : Int) := by
  rw [show (n : Int) - 1 = ((n - 1 : Nat) : Int) from by omega]
  exact IntWalk.i64_in _ (by omega)

set_option maxRecDepth 100000 in
set_option maxHeartbeats 2000000 in
theorem upNodes_calls (u s : Nat) (hu : u ≤ 12) (hs : s ≤ 15) (w : World) :
    Calls Try.prog 46 #[.agg #[.int .i64 u, .int .i64 s]] w (OwnPost w (upD u s)) := by
  induction u generalizing s w with
  | zero =>
    have hb0 : Below w.heap.size w (w.alloc (.cells #[.int .i64 0, .int .i64 s] 65)) := (Below.refl _ _).alloc (Nat.le_refl _) _
    have C := Lib.hid (starI_calls s (by omega) (w.alloc (.cells #[.int .i64 0, .int .i64 s] 65)))
    have HB0 := Lib.hid hb0
    clear hb0
    go_enter Try.func46, Try.ntmps46
    go_wp2_with fail
    refine C.out.mono ?_
    rintro e w1 ⟨g, vs, rfl, ho, hb⟩
    have HB := Lib.hid (below_via HB0.out hb)
    have HO := Lib.hid (ho.mono HB0.out.size)
    have HE : Hid ((upD 0 s).length = s + 1) := Lib.hid (by rw [upD_zero, starT_len])
    clear ho hb C
    go_wp2_with fail
    go_ret
    refine ⟨some ⟨g, 0, none⟩, s + 1, vs, ?_, by rw [HE.out]; exact HO.out, HB.out⟩
    show Ending.returned (Value.slice (some ⟨g, 0, none⟩) (s + 1) (s + 1)) = _
    rw [HE.out]
  | succ u ih =>
    obtain ⟨iN, hiN, hzN0, hzN1, hzN2⟩ := info_parts infoNodeA
    have hb0 : Below w.heap.size w (w.alloc (.cells #[.int .i64 ((u + 1 : Nat) : Int), .int .i64 s] 65)) := (Below.refl _ _).alloc (Nat.le_refl _) _
    have HB0 := Lib.hid hb0
    by_cases h : u = 0 ∧ s = 1
    · obtain ⟨rfl, rfl⟩ := h
      have C := Lib.hid (starI_calls 1 (by omega) (w.alloc (.cells #[.int .i64 1, .int .i64 1] 65)))
      have HE : Hid ((upD 1 1).length = 2 + 1) := Lib.hid (by rw [upD_one]; simp [starT_len])
      have HM : Hid ((upD 1 1).map upN = starZ 1 ++ [([0, 1], [0])]) := Lib.hid (by rw [upD_one, List.map_append]; rfl)
      clear hb0 ih
      go_enter Try.func46, Try.ntmps46
      go_wp2_with fail
      refine C.out.mono ?_
      rintro e w1 ⟨g, vs, rfl, ho, hb⟩
      have HB := Lib.hid (below_via HB0.out hb)
      have HO := Lib.hid (ho.mono HB0.out.size)
      have hs1 := HB.out.size
      have hrow := Lib.hid (World.ownsRow.alloc (World.ownsRow.alloc (World.ownsRow.alloc HO.out.nodes (.cells #[.int .i64 0, .int .i64 1] 3)) (.cells #[.int .i64 0] 3)) (.cells #[.slice (some ⟨w1.heap.size, 0, none⟩) 2 2, .slice (some ⟨w1.heap.size + 1, 0, none⟩) 1 1] 73))
      have HZL := Lib.hid (starZ_len 1)
      rw [HZL.out] at hrow
      clear ho hb C
      go_wp2_with (at_builtin; refine wpList_append_own_at _ rfl _ _ 22 rfl w.heap.size 73 iN (.agg #[.slice none 0 0, .slice none 0 0]) 2 48 Try.underlying22 hiN hzN0 hzN1 hzN2 rfl (by decide) _ _ _ rfl hrow.out ⟨w1.heap.size + 1 + 1, 0, none⟩ 1 1 [.slice (some ⟨w1.heap.size, 0, none⟩) 2 2, .slice (some ⟨w1.heap.size + 1, 0, none⟩) 1 1] rfl rfl (World.news_of_block (new3 _ _ _ _)) (by simp [Value.oneCell']) (by unfold maxLen; omega) (by omega) (by simp; omega) ?_; intro v7 w7 hown7 hgrow7 hnil7 hat7)
      obtain ⟨g7, c7, rfl, _, hg7h⟩ := hown7.form (by omega)
      obtain ⟨R1, R2⟩ := ownF_top (l1 := [0, 1]) (l2 := [0]) HO.out hs1 rfl rfl (by decide) (by decide) hgrow7 hown7 hat7
      have R1' := Lib.hid R1
      have R2' := Lib.hid (HB.out.trans R2)
      clear hown7 hgrow7 hnil7 hat7 hrow R1 R2
      go_wp2_with fail
      go_ret
      refine ⟨some ⟨g7, 0, none⟩, c7, _, ?_, by rw [HE.out, HM.out]; exact R1'.out, R2'.out⟩
      show Ending.returned (Value.slice (some ⟨g7, 0, none⟩) (2 + 1) c7) = _
      rw [HE.out]
    · obtain ⟨hL, hl⟩ := upD_good u (s ^^^ 1) (by omega) (xor_small hs)
      have hpos := hL.pos
      have HIH := Lib.hid fun (W : World) => ih (s ^^^ 1) (by omega) (xor_small hs) W
      have HST := Lib.hid (upD_step u s h)
      have hx := xor_bits s hs
      have hw1 : IntKind.i64.wrap (((u + 1 : Nat) : Int) - 1) = (u : Int) := by rw [show ((u + 1 : Nat) : Int) - 1 = (u : Int) from by omega]; exact IntWalk.i64_in _ (by omega)
      obtain ⟨N, hN⟩ : ∃ N, (upD u (s ^^^ 1)).length = N := ⟨_, rfl⟩
      rw [hN] at hpos hl
      have hwN := len_lessU N hpos (by omega)
      have HEL : Hid ((upD (u + 1) s).length = N + 1) := Lib.hid (by rw [HST.out, List.length_append, List.length_singleton, hN])
      have HEM : Hid ((upD (u + 1) s).map upN = (upD u (s ^^^ 1)).map upN ++ [([0], [((N - 1 : Nat) : Int)])]) := Lib.hid (by rw [HST.out, List.map_append, hN]; rfl)
      obtain ⟨T, hT⟩ : ∃ T, upD (u + 1) s = T := ⟨_, rfl⟩
      rw [hT] at HEL HEM
      obtain ⟨x, hxe⟩ : ∃ x, s ^^^ 1 = x := ⟨_, rfl⟩
      rw [hxe] at HIH hx HEM hN
      obtain ⟨U, hU⟩ : ∃ U, upD u x = U := ⟨_, rfl⟩
      rw [hU] at HIH HEM hN
      have HN := Lib.hid hN
      rw [hT]
      rcases Nat.eq_zero_or_pos u with hu0 | hu0
      · subst hu0
        have hs1 : ¬ (s : Int) = 1 := by omega
        have C : Hid (Calls Try.prog 46 #[.agg #[.int .i64 0, .int .i64 x]] (w.alloc (.cells #[.int .i64 1, .int .i64 s] 65)) (OwnPost (w.alloc (.cells #[.int .i64 1, .int .i64 s] 65)) U)) := Lib.hid (HIH.out _)
        have HB1 : Hid (Below w.heap.size w (w.alloc (.cells #[.int .i64 1, .int .i64 s] 65))) := Lib.hid ((Below.refl _ _).alloc (Nat.le_refl _) _)
        show Calls _ _ #[.agg #[.int .i64 1, .int .i64 s]] w (OwnPost w T)
        clear h hL ih hb0 hN hT HST HIH hxe hU hw1 HB0
        go_enter Try.func46, Try.ntmps46
        go_wp2_with fail
        refine C.out.mono ?_
        rintro e w1 ⟨a, c, vs, rfl, ho, hb⟩
        have HB := Lib.hid (below_via HB1.out hb)
        have HO := Lib.hid (ho.mono HB1.out.size)
        have hs1 := HB.out.size
        have hfl : (U.map upN).length = N := by rw [List.length_map]; exact HN.out
        have hrow0 := World.ownsRow.alloc (World.ownsRow.alloc (World.ownsRow.alloc HO.out.nodes (.cells #[.int .i64 0] 3)) (.cells #[.int .i64 ((N - 1 : Nat) : Int)] 3)) (.cells #[.slice (some ⟨w1.heap.size, 0, none⟩) 1 1, .slice (some ⟨w1.heap.size + 1, 0, none⟩) 1 1] 73)
        rw [hfl, HN.out] at hrow0
        have hrow := Lib.hid hrow0
        rw [HN.out]
        have HFL := Lib.hid hfl
        clear ho hb hrow0 hfl
        go_wp2_with (at_builtin; refine wpList_append_own_at _ rfl _ _ 22 rfl w.heap.size 73 iN (.agg #[.slice none 0 0, .slice none 0 0]) 2 48 Try.underlying22 hiN hzN0 hzN1 hzN2 rfl (by decide) _ _ _ rfl hrow.out ⟨w1.heap.size + 1 + 1, 0, none⟩ 1 1 [.slice (some ⟨w1.heap.size, 0, none⟩) 1 1, .slice (some ⟨w1.heap.size + 1, 0, none⟩) 1 1] rfl rfl (World.news_of_block (new3 _ _ _ _)) (by simp [Value.oneCell']) (by unfold maxLen; omega) (by omega) (by simp; omega) ?_; intro v7 w7 hown7 hgrow7 hnil7 hat7)
        obtain ⟨g7, c7, rfl, _, hg7h⟩ := hown7.form (by omega)
        have hO : OwnF w1 w.heap.size (.slice a N c) vs (U.map upN) := by rw [← HN.out]; exact HO.out
        obtain ⟨R1, R2⟩ := ownF_top (l1 := [0]) (l2 := [((N - 1 : Nat) : Int)]) hO hs1 rfl rfl (by simp) (by simp) hgrow7 (by rw [HFL.out]; exact hown7) hat7
        rw [← HEM.out] at R1
        have R1' := Lib.hid R1
        have R2' := Lib.hid (HB.out.trans R2)
        clear hown7 hgrow7 hnil7 hat7 hrow R1 R2 hO
        go_wp2_with fail
        go_ret
        refine ⟨some ⟨g7, 0, none⟩, c7, _, ?_, by rw [HEL.out]; exact R1'.out, R2'.out⟩
        show Ending.returned (Value.slice (some ⟨g7, 0, none⟩) (N + 1) c7) = _
        rw [HEL.out]
      · obtain ⟨m, hm⟩ : ∃ m, u + 1 = m := ⟨_, rfl⟩
        have hne0 : ¬ (m : Int) = 0 := by omega
        have hne1 : ¬ (m : Int) = 1 := by omega
        rw [hm] at hw1 HB0 ⊢
        have HB1 := HB0
        have C := Lib.hid (HIH.out (w.alloc (.cells #[.int .i64 (m : Int), .int .i64 s] 65)))
        clear h hL ih hb0 hN hT HST HIH hxe hU hm hu0
        go_enter Try.func46, Try.ntmps46
        go_wp2_with fail
        refine C.out.mono ?_
        rintro e w1 ⟨a, c, vs, rfl, ho, hb⟩
        have HB := Lib.hid (below_via HB1.out hb)
        have HO := Lib.hid (ho.mono HB1.out.size)
        have hs1 := HB.out.size
        have hfl : (U.map upN).length = N := by rw [List.length_map]; exact HN.out
        have hrow0 := World.ownsRow.alloc (World.ownsRow.alloc (World.ownsRow.alloc HO.out.nodes (.cells #[.int .i64 0] 3)) (.cells #[.int .i64 ((N - 1 : Nat) : Int)] 3)) (.cells #[.slice (some ⟨w1.heap.size, 0, none⟩) 1 1, .slice (some ⟨w1.heap.size + 1, 0, none⟩) 1 1] 73)
        rw [hfl, HN.out] at hrow0
        have hrow := Lib.hid hrow0
        rw [HN.out]
        have HFL := Lib.hid hfl
        clear ho hb hrow0 hfl
        go_wp2_with (at_builtin; refine wpList_append_own_at _ rfl _ _ 22 rfl w.heap.size 73 iN (.agg #[.slice none 0 0, .slice none 0 0]) 2 48 Try.underlying22 hiN hzN0 hzN1 hzN2 rfl (by decide) _ _ _ rfl hrow.out ⟨w1.heap.size + 1 + 1, 0, none⟩ 1 1 [.slice (some ⟨w1.heap.size, 0, none⟩) 1 1, .slice (some ⟨w1.heap.size + 1, 0, none⟩) 1 1] rfl rfl (World.news_of_block (new3 _ _ _ _)) (by simp [Value.oneCell']) (by unfold maxLen; omega) (by omega) (by simp; omega) ?_; intro v7 w7 hown7 hgrow7 hnil7 hat7)
        obtain ⟨g7, c7, rfl, _, hg7h⟩ := hown7.form (by omega)
        have hO : OwnF w1 w.heap.size (.slice a N c) vs (U.map upN) := by rw [← HN.out]; exact HO.out
        obtain ⟨R1, R2⟩ := ownF_top (l1 := [0]) (l2 := [((N - 1 : Nat) : Int)]) hO hs1 rfl rfl (by simp) (by simp) hgrow7 (by rw [HFL.out]; exact hown7) hat7
        rw [← HEM.out] at R1
        have R1' := Lib.hid R1
        have R2' := Lib.hid (HB.out.trans R2)
        clear hown7 hgrow7 hnil7 hat7 hrow R1 R2 hO
        go_wp2_with fail
        go_ret
        refine ⟨some ⟨g7, 0, none⟩, c7, _, ?_, by rw [HEL.out]; exact R1'.out, R2'.out⟩
        show Ending.returned (Value.slice (some ⟨g7, 0, none⟩) (N + 1) c7) = _
        rw [HEL.out]
end

section
set_option linter.unusedVariables false
set_option linter.unusedSimpArgs false
open Go.RowKit

/-- are they in their ranges? -/
def upOk (n s : Int) : Bool := (decide (-12 ≤ n) && decide (n ≤ 12)) && (decide (0 ≤ s) && decide (s ≤ 15))
/-- the game, or nothing -/
def upV (n s : Int) : List Nz := if upOk n s then (if n < 0 then negV ((upD n.natAbs s.toNat).map upN) else (upD n.natAbs s.toNat).map upN) else []
theorem upV_no {n s : Int} (h : upOk n s = false) : upV n s = [] := by unfold upV; rw [h]; rfl
theorem upV_neg {n s : Int} (h : upOk n s = true) (hn : n < 0) : upV n s = negV ((upD n.natAbs s.toNat).map upN) := by unfold upV; rw [h, if_pos rfl, if_pos hn]
theorem upV_pos {n s : Int} (h : upOk n s = true) (hn : ¬ n < 0) : upV n s = (upD n.natAbs s.toNat).map upN := by unfold upV; rw [h, if_pos rfl, if_neg hn]
theorem upOk_iff (n s : Int) : upOk n s = true ↔ (-12 ≤ n ∧ n ≤ 12) ∧ (0 ≤ s ∧ s ≤ 15) := by unfold upOk; simp only [Bool.and_eq_true, decide_eq_true_eq]
theorem upOk_parts {n s : Int} (h : upOk n s = true) : ∃ m x : Nat, m ≤ 12 ∧ x ≤ 15 ∧ n.natAbs = m ∧ s = (x : Int) ∧ s.toNat = x ∧ (n = (m : Int) ∨ (n = -(m : Int) ∧ 0 < m)) := by
  have := (upOk_iff n s).1 h
  refine ⟨n.natAbs, s.toNat, by omega, by omega, rfl, by omega, rfl, by omega⟩
theorem upD_goodB {m x : Nat} (hm : m ≤ 12) (hx : x ≤ 15) : goodB ((upD m x).map upN) = true := (upD_good m x hm hx).1.goodB (by have := (upD_good m x hm hx).2; omega)

def UpPost (w : World) (g : List Nz) (ok : Bool) (e : Ending) (w' : World) : Prop := ∃ a c vs, e = .returned (.tuple #[.agg #[.slice a g.length c], .bool ok]) ∧ OwnF w' w.heap.size (.slice a g.length c) vs g ∧ Below w.heap.size w w'
theorem upPost_none {w w' : World} {e : Ending} (he : e = .returned (.tuple #[.agg #[.slice none 0 0], .bool false])) (hb : Below w.heap.size w w') : UpPost w [] false e w' := ⟨none, 0, [], he, OwnF.nil _ _, hb⟩

set_option maxRecDepth 100000 in
set_option maxHeartbeats 2000000 in
theorem upsI_no (n s : Int) (h : upOk n s = false) (w : World) : Calls Try.prog 17 #[.int .i64 n, .int .i64 s] w (UpPost w [] false) := by
  have hb0 : Hid (Below w.heap.size w (w.alloc (.cells #[.slice none 0 0] 24))) := Lib.hid ((Below.refl _ _).alloc (Nat.le_refl _) _)
  have hcase : n < -12 ∨ (¬ n < -12 ∧ 12 < n) ∨ (¬ n < -12 ∧ ¬ 12 < n ∧ s < 0) ∨ (¬ n < -12 ∧ ¬ 12 < n ∧ ¬ s < 0 ∧ 15 < s) := by
    have h1 : ¬ ((-12 ≤ n ∧ n ≤ 12) ∧ (0 ≤ s ∧ s ≤ 15)) := fun e => by rw [(upOk_iff n s).2 e] at h; cases h
    omega
  clear h
  rcases hcase with h1 | ⟨h1, h2⟩ | ⟨h1, h2, h3⟩ | ⟨h1, h2, h3, h4⟩ <;>
  · go_enter Try.func17, Try.ntmps17
    go_wp2_with fail
    exact bodyPost_ret (v := .tuple #[.agg #[.slice none 0 0], .bool false]) (by simp [results, Try.results17, go_sem]) rfl (upPost_none rfl hb0.out)

set_option maxRecDepth 100000 in
set_option maxHeartbeats 2000000 in
theorem upsI_pos (m x : Nat) (hm : m ≤ 12) (hx : x ≤ 15) (w : World) : Calls Try.prog 17 #[.int .i64 m, .int .i64 x] w (UpPost w ((upD m x).map upN) true) := by
  have hb0 : Below w.heap.size w (w.alloc (.cells #[.slice none 0 0] 24)) := (Below.refl _ _).alloc (Nat.le_refl _) _
  have hx0 : BoxAt (w.alloc (.cells #[.slice none 0 0] 24)) w.heap.size (.slice none 0 0) := ⟨by go_simp, by go_simp⟩
  have C := Lib.hid (upNodes_calls m x hm hx (w.alloc (.cells #[.slice none 0 0] 24)))
  have HB0 := Lib.hid hb0
  have HX0 := Lib.hid hx0
  obtain ⟨U, hU⟩ : ∃ U, upD m x = U := ⟨_, rfl⟩
  rw [hU] at C ⊢
  have g1 : ¬ (m : Int) < -12 := by omega
  have g2 : ¬ (12 : Int) < m := by omega
  have g3 : ¬ (x : Int) < 0 := by omega
  have g4 : ¬ (15 : Int) < x := by omega
  have g5 : ¬ (m : Int) < 0 := by omega
  have g6 : IntKind.i64.wrap (-(m : Int)) = -(m : Int) := IntWalk.i64_in _ (by omega)
  have g7 : max (m : Int) (-(m : Int)) = (m : Int) := by omega
  clear hU hb0 hx0
  go_enter Try.func17, Try.ntmps17
  go_wp2_with fail
  refine C.out.mono ?_
  rintro e w1 ⟨a, c, vs, rfl, ho, hb⟩
  have hbx := HX0.out.below hb
  have HB := Lib.hid (below_via HB0.out hb)
  have hlt := block_of_cell hbx.1
  have HO := Lib.hid ho
  have hal : Below w1.heap.size w1 (w1.alloc (.cells #[.slice a U.length c] 24)) := (Below.refl _ _).alloc (Nat.le_refl _) _
  have hz0 := HB0.out.size
  have hlt0 := block_of_cell HX0.out.1
  have hUl : (U.map upN).length = U.length := by simp
  obtain ⟨d1, z1⟩ := hbx
  have hcs := World.cell?_setCell_same w1 ⟨w.heap.size, 0, none⟩ (.slice a U.length c) d1
  have hal2 : Below (w1.setCell ⟨w.heap.size, 0, none⟩ (.slice a U.length c)).heap.size (w1.setCell ⟨w.heap.size, 0, none⟩ (.slice a U.length c)) ((w1.setCell ⟨w.heap.size, 0, none⟩ (.slice a U.length c)).alloc (.cells #[.slice a U.length c] 24)) := (Below.refl _ _).alloc (Nat.le_refl _) _
  have HO3 : Hid (OwnF ((w1.setCell ⟨w.heap.size, 0, none⟩ (.slice a U.length c)).alloc (.cells #[.slice a U.length c] 24)) w.heap.size (.slice a U.length c) vs (U.map upN)) := Lib.hid (((ho.setCell (by show w.heap.size < _; exact hlt0)).mono hz0).below hal2)
  have HB3 : Hid (Below w.heap.size w ((w1.setCell ⟨w.heap.size, 0, none⟩ (.slice a U.length c)).alloc (.cells #[.slice a U.length c] 24))) := Lib.hid (below_via (HB.out.setCell (Nat.le_refl _) _) hal2)
  have hcr := (bcell hal2 w.heap.size 0 (by simpa using hlt)).trans hcs
  have HUL := Lib.hid hUl
  clear ho hb hal hal2 hUl C
  go_wp2_with fail
  refine bodyPost_ret (v := .tuple #[.agg #[.slice a U.length c], .bool true]) (by simp [results, Try.results17, go_sem, hcr]) rfl ⟨a, c, vs, ?_, ?_, HB3.out⟩
  · rw [HUL.out]
  · rw [HUL.out]; exact HO3.out

set_option maxRecDepth 100000 in
set_option maxHeartbeats 2000000 in
theorem upsI_neg (m x : Nat) (hm : m ≤ 12) (h0 : 0 < m) (hx : x ≤ 15) (w : World) : Calls Try.prog 17 #[.int .i64 (-(m : Int)), .int .i64 x] w (UpPost w (negV ((upD m x).map upN)) true) := by
  have hb0 : Below w.heap.size w (w.alloc (.cells #[.slice none 0 0] 24)) := (Below.refl _ _).alloc (Nat.le_refl _) _
  have hx0 : BoxAt (w.alloc (.cells #[.slice none 0 0] 24)) w.heap.size (.slice none 0 0) := ⟨by go_simp, by go_simp⟩
  have C := Lib.hid (upNodes_calls m x hm hx (w.alloc (.cells #[.slice none 0 0] 24)))
  have HB0 := Lib.hid hb0
  have HX0 := Lib.hid hx0
  have HGD := Lib.hid (upD_goodB hm hx)
  obtain ⟨U, hU⟩ : ∃ U, upD m x = U := ⟨_, rfl⟩
  rw [hU] at C HGD ⊢
  obtain ⟨g, hg⟩ : ∃ g, negV (U.map upN) = g := ⟨_, rfl⟩
  have HG := Lib.hid hg
  rw [hg]
  obtain ⟨n, hn⟩ : ∃ n : Int, -(m : Int) = n := ⟨_, rfl⟩
  have g1 : ¬ n < -12 := by omega
  have g2 : ¬ (12 : Int) < n := by omega
  have g3 : ¬ (x : Int) < 0 := by omega
  have g4 : ¬ (15 : Int) < x := by omega
  have g5 : n < 0 := by omega
  have g6 : IntKind.i64.wrap (-n) = (m : Int) := by rw [← hn, Int.neg_neg]; exact IntWalk.i64_in _ (by omega)
  have g7 : max n (m : Int) = (m : Int) := by omega
  rw [hn]
  clear hU hb0 hx0 hg hn
  go_enter Try.func17, Try.ntmps17
  go_wp2_with fail
  refine C.out.mono ?_
  rintro e w1 ⟨a, c, vs, rfl, ho, hb⟩
  have hbx := HX0.out.below hb
  have HB := Lib.hid (below_via HB0.out hb)
  have hlt := block_of_cell hbx.1
  have HO := Lib.hid ho
  have hal : Below w1.heap.size w1 (w1.alloc (.cells #[.slice a U.length c] 24)) := (Below.refl _ _).alloc (Nat.le_refl _) _
  have hz0 := HB0.out.size
  have hlt0 := block_of_cell HX0.out.1
  have hUl : (U.map upN).length = U.length := by simp
  have HO2 := ho.below hal
  have HB2 := Lib.hid (below_via HB.out hal)
  have hbx2 := hbx.below hal
  have C2 := Lib.hid (negI_calls (.slice a U.length c) (U.map upN) g true (Lib.hid HGD.out) HG (w1.alloc (.cells #[.slice a U.length c] 24)) _ _ (Nat.le_refl _) HO2.nodesZ)
  clear ho hb hbx hal hUl C HO2 HO
  go_wp2_with fail
  refine C2.out.mono ?_
  rintro e w2 ⟨a2, c2, vs2, rfl, ho2, hb2⟩
  obtain ⟨d2, z2⟩ := hbx2.below hb2
  have hlt2 := block_of_cell hbx2.1
  have HO3 : Hid (OwnF (w2.setCell ⟨w.heap.size, 0, none⟩ (.slice a2 g.length c2)) w.heap.size (.slice a2 g.length c2) vs2 g) := Lib.hid ((ho2.setCell (by show w.heap.size < _; exact hlt2)).mono HB2.out.size)
  have HB3 : Hid (Below w.heap.size w (w2.setCell ⟨w.heap.size, 0, none⟩ (.slice a2 g.length c2))) := Lib.hid ((below_via HB2.out hb2).setCell (Nat.le_refl _) _)
  have hcr := World.cell?_setCell_same w2 ⟨w.heap.size, 0, none⟩ (.slice a2 g.length c2) d2
  clear ho2 hb2 hbx2 C2
  go_wp2_with fail
  exact bodyPost_ret (v := .tuple #[.agg #[.slice a2 g.length c2], .bool true]) (by simp [results, Try.results17, go_sem, hcr]) rfl ⟨a2, c2, vs2, rfl, HO3.out, HB3.out⟩

theorem upsI_calls (n s : Int) (g : List Nz) (ok : Bool) (hok : Hid (upOk n s = ok)) (hg : Hid (upV n s = g)) (w : World) : Calls Try.prog 17 #[.int .i64 n, .int .i64 s] w (UpPost w g ok) := by
  cases ok with
  | false =>
    obtain rfl : g = [] := by rw [← hg.out, upV_no hok.out]
    exact upsI_no n s hok.out w
  | true =>
    obtain ⟨m, x, hm, hx, h1, rfl, h3, h4⟩ := upOk_parts hok.out
    rcases h4 with rfl | ⟨rfl, h5⟩
    · rw [← hg.out, upV_pos hok.out (by omega), h1, h3]
      exact upsI_pos m x hm hx w
    · rw [← hg.out, upV_neg hok.out (by omega), h1, h3]
      exact upsI_neg m x hm h5 hx w

/-- StarForm is UpsForm without ups -/
theorem starFI_calls (n : Int) (g : List Nz) (ok : Bool) (hok : Hid (upOk 0 n = ok)) (hg : Hid (upV 0 n = g)) (w : World) : Calls Try.prog 12 #[.int .i64 n] w (UpPost w g ok) := by
  have hb0 : Below w.heap.size w (w.alloc (.cells #[.slice none 0 0] 24)) := (Below.refl _ _).alloc (Nat.le_refl _) _
  have hx0 : BoxAt (w.alloc (.cells #[.slice none 0 0] 24)) w.heap.size (.slice none 0 0) := ⟨by go_simp, by go_simp⟩
  have C := Lib.hid (upsI_calls 0 n g ok hok hg (w.alloc (.cells #[.slice none 0 0] 24)))
  have HB0 := Lib.hid hb0
  have HX0 := Lib.hid hx0
  clear hok hg hb0 hx0
  go_enter Try.func12, Try.ntmps12
  go_wp2_with fail
  refine C.out.mono ?_
  rintro e w1 ⟨a, c, vs, rfl, ho, hb⟩
  obtain ⟨d1, z1⟩ := HX0.out.below hb
  have hlt := block_of_cell HX0.out.1
  have HO3 : Hid (OwnF (w1.setCell ⟨w.heap.size, 0, none⟩ (.slice a g.length c)) w.heap.size (.slice a g.length c) vs g) := Lib.hid ((ho.setCell (by show w.heap.size < _; exact hlt)).mono HB0.out.size)
  have HB3 : Hid (Below w.heap.size w (w1.setCell ⟨w.heap.size, 0, none⟩ (.slice a g.length c))) := Lib.hid ((below_via HB0.out hb).setCell (Nat.le_refl _) _)
  have hcr := World.cell?_setCell_same w1 ⟨w.heap.size, 0, none⟩ (.slice a g.length c) d1
  clear ho hb C
  go_wp2_with fail
  exact bodyPost_ret (v := .tuple #[.agg #[.slice a g.length c], .bool ok]) (by simp [results, Try.results12, go_sem, hcr]) rfl ⟨a, c, vs, rfl, HO3.out, HB3.out⟩
end

section
set_option linter.unusedVariables false
set_option linter.unusedSimpArgs false
open Go.RowKit

theorem OwnI.cellsS {w : World} {base g c : Nat} {l : List Int} (h : OwnI w base (.slice (some ⟨g, 0, none⟩) l.length c) l) : ∀ j u, (l.map (Value.int .i64))[j]? = some u → w.cell? ((⟨g, 0, none⟩ : Addr).add j) = some u := fun j u hj => World.ownsRow.cells h (g := g) rfl j u hj

set_option maxHeartbeats 1000000 in
theorem l1Own_calls (b c : Nat) (l : List Int) (w : World) (hl : l.length ≤ 1000) (hc : ∀ j u, (l.map (Value.int .i64))[j]? = some u → w.cell? ((⟨b, 0, none⟩ : Addr).add j) = some u) (hb : b < w.heap.size) :
    Calls Try.prog 82 #[.slice (some ⟨b, 0, none⟩) l.length c] w fun e w' => ∃ g c', e = .returned (.slice (some ⟨g, 0, none⟩) l.length c') ∧ OwnI w' w.heap.size (.slice (some ⟨g, 0, none⟩) l.length c') l ∧ Below w.heap.size w w' := by
  obtain ⟨i0, hi0, hz0, hz1, hz2⟩ := info_parts infoIntA
  have hal : Below w.heap.size w (w.alloc (.cells #[] 3)) := (Below.refl _ _).alloc (Nat.le_refl _) _
  have hown0 : (w.alloc (.cells #[] 3)).ownsRow w.heap.size 3 1 (.slice (some ⟨w.heap.size, 0, none⟩) 0 0) 0 [] := World.ownsRow_lit (base := w.heap.size) (e := 3) (size := 1) w #[] 0 (Nat.le_refl _) (by unfold maxLen; omega) rfl
  have HO := Lib.hid hown0
  have HB := Lib.hid hal
  have HC : Hid (∀ j u, (l.map (Value.int .i64))[j]? = some u → (w.alloc (.cells #[] 3)).cell? ((⟨b, 0, none⟩ : Addr).add j) = some u) := Lib.hid (fun j u hj => (hal.cell (p := (⟨b, 0, none⟩ : Addr).add j) (by unfold Addr.add; split <;> exact hb)).trans (hc j u hj))
  have HL : Hid ((l.map (Value.int .i64)).length = l.length * 1) := Lib.hid (by simp)
  obtain ⟨X, hX⟩ : ∃ X, l.map (Value.int .i64) = X := ⟨_, rfl⟩
  rw [hX] at HC HL
  have HX := Lib.hid hX
  have HON : Hid (∀ u ∈ X, u.oneCell' = true) := Lib.hid (fun u hu => by rw [← hX] at hu; obtain ⟨x, _, rfl⟩ := List.mem_map.1 hu; rfl)
  clear hc hown0 hal hX
  go_enter Try.func82, Try.ntmps82
  go_wp2_with (at_builtin; refine wpList_append_own_at _ rfl _ _ 53 rfl w.heap.size 3 i0 (.int .i64 0) 1 8 Try.underlying53 hi0 hz0 hz1 hz2 rfl (by decide) _ _ _ rfl HO.out ⟨b, 0, none⟩ l.length c X rfl HL.out HC.out HON.out (by unfold maxLen; omega) (by omega) (by simp) ?_; intro v7 w7 hown7 hgrow7 hnil7 hat7)
  have HB7 := Lib.hid (HB.out.grown hgrow7 HB.out.size (fun q hq => by have := own_eqp hq; omega))
  have hv : ∃ g c', v7 = .slice (some ⟨g, 0, none⟩) l.length c' := by
    rw [Nat.zero_add] at hown7
    rcases hown7.2 with ⟨h1, h0⟩ | ⟨g, c', cs, h1, _⟩
    · exfalso
      have := hnil7.1 h1
      cases this.1
    · exact ⟨g, c', h1⟩
  obtain ⟨g7, c7, rfl⟩ := hv
  have HO7 : Hid (OwnI w7 w.heap.size (.slice (some ⟨g7, 0, none⟩) l.length c7) l) := Lib.hid (by
    unfold OwnI
    rw [HX.out]
    rw [Nat.zero_add, List.nil_append] at hown7
    exact hown7)
  clear hown7 hgrow7 hnil7 hat7
  go_wp2_with fail
  go_ret
  exact ⟨g7, c7, rfl, HO7.out, HB7.out⟩

theorem starT_up (k : Nat) : (starT (k + 1)).map upN = (starT k).map upN ++ [(upL (List.range k), upL (List.range k))] := by rw [starT_succ, List.map_append]; rfl

set_option maxRecDepth 100000 in
set_option maxHeartbeats 8000000 in
theorem l8Star_calls (n : Nat) (hn : n ≤ 900) (w : World) :
    Calls Try.prog 40 #[.int .i64 n] w fun e w' => ∃ a c, e = .returned (.agg #[.slice a (n + 1) c]) ∧ NodesZ w' w.heap.size w'.heap.size (.slice a (n + 1) c) ((starT (n + 1)).map upN) ∧ Below w.heap.size w w' := by
  obtain ⟨i0, hi0, hz0, hz1, hz2⟩ := info_parts infoIntA
  have e1 : (w.alloc (.cells #[.slice none 0 0] 24)).heap.size = w.heap.size + 1 := by simp
  have e2 : ((w.alloc (.cells #[.slice none 0 0] 24)).alloc (.cells #[] 73)).heap.size = w.heap.size + 1 + 1 := by simp
  have e3 : (((w.alloc (.cells #[.slice none 0 0] 24)).alloc (.cells #[] 73)).alloc (.cells #[.slice (some ⟨w.heap.size + 1, 0, none⟩) 0 0] 24)).heap.size = w.heap.size + 1 + 1 + 1 := by simp
  have hr1 := World.ownsRow_lit (base := w.heap.size + 1) (e := 73) (size := 2) (w.alloc (.cells #[.slice none 0 0] 24)) #[] 0 (by rw [e1]; exact Nat.le_refl _) (by unfold maxLen; omega) rfl
  rw [e1] at hr1
  have hr2 := World.ownsRow_lit (base := w.heap.size + 1) (e := 3) (size := 1) (((w.alloc (.cells #[.slice none 0 0] 24)).alloc (.cells #[] 73)).alloc (.cells #[.slice (some ⟨w.heap.size + 1, 0, none⟩) 0 0] 24)) #[] 0 (by rw [e3]; omega) (by unfold maxLen; omega) rfl
  rw [e3] at hr2
  have HB0 : Hid (Below w.heap.size w ((((w.alloc (.cells #[.slice none 0 0] 24)).alloc (.cells #[] 73)).alloc (.cells #[.slice (some ⟨w.heap.size + 1, 0, none⟩) 0 0] 24)).alloc (.cells #[] 3))) := Lib.hid (((((Below.refl _ _).alloc (Nat.le_refl _) _).alloc (by simp) _).alloc (by simp; omega) _).alloc (by simp; omega) _)
  have HP0 : Hid (PileZ ((((w.alloc (.cells #[.slice none 0 0] 24)).alloc (.cells #[] 73)).alloc (.cells #[.slice (some ⟨w.heap.size + 1, 0, none⟩) 0 0] 24)).alloc (.cells #[] 3)) (w.heap.size + 1) (.slice (some ⟨w.heap.size + 1, 0, none⟩) 0 0) [] ((starT 0).map upN) (fun g => (g = w.heap.size + 1 + 1 + 1 ∨ g = w.heap.size + 1 + 1) ∨ g < w.heap.size + 1)) := Lib.hid ⟨World.ownsRow.alloc (World.ownsRow.alloc hr1 _) _, rfl, fun j nd p h => by simp [starT] at h⟩
  have HO0 : Hid (OwnI ((((w.alloc (.cells #[.slice none 0 0] 24)).alloc (.cells #[] 73)).alloc (.cells #[.slice (some ⟨w.heap.size + 1, 0, none⟩) 0 0] 24)).alloc (.cells #[] 3)) (w.heap.size + 1) (.slice (some ⟨w.heap.size + 1 + 1 + 1, 0, none⟩) 0 0) (upL (List.range 0))) := Lib.hid hr2
  have hbx0 : BoxAt ((((w.alloc (.cells #[.slice none 0 0] 24)).alloc (.cells #[] 73)).alloc (.cells #[.slice (some ⟨w.heap.size + 1, 0, none⟩) 0 0] 24)).alloc (.cells #[] 3)) (w.heap.size + 1 + 1) (.slice (some ⟨w.heap.size + 1, 0, none⟩) 0 0) := ⟨by go_simp, by go_simp⟩
  have hbr0 : BoxAt ((((w.alloc (.cells #[.slice none 0 0] 24)).alloc (.cells #[] 73)).alloc (.cells #[.slice (some ⟨w.heap.size + 1, 0, none⟩) 0 0] 24)).alloc (.cells #[] 3)) w.heap.size (.slice none 0 0) := ⟨by go_simp, by go_simp⟩
  have HX0 := Lib.hid hbx0
  have HR0 := Lib.hid hbr0
  clear e1 e2 e3 hr1 hr2 hbx0 hbr0
  go_enter Try.func40, Try.ntmps40
  go_wp2
  go_loopw [4, 5] (fun q i wr => ∃ (k gn cn gl cl : Nat) (vs : List (Value × Value)), k ≤ n + 1 ∧ i = .int .i64 k ∧ q = .slice (some ⟨gl, 0, none⟩) k cl ∧ Hid (PileZ wr (w.heap.size + 1) (.slice (some ⟨gn, 0, none⟩) k cn) vs ((starT k).map upN) (fun g => (g = gl ∨ g = w.heap.size + 1 + 1) ∨ g < w.heap.size + 1)) ∧
      Hid (OwnI wr (w.heap.size + 1) (.slice (some ⟨gl, 0, none⟩) k cl) (upL (List.range k))) ∧ Hid (BoxAt wr (w.heap.size + 1 + 1) (.slice (some ⟨gn, 0, none⟩) k cn)) ∧ Hid (BoxAt wr w.heap.size (.slice none 0 0)) ∧ Hid (Below w.heap.size w wr) ∧ gn ≠ gl ∧ gn ≠ w.heap.size + 1 + 1 ∧ gl ≠ w.heap.size + 1 + 1) (fun _ i _ => n + 1 - (intOf i).toNat)
  case atStart => exact ⟨0, w.heap.size + 1, 0, w.heap.size + 1 + 1 + 1, 0, [], by omega, rfl, rfl, HP0, HO0, HX0, HR0, HB0, by omega, by omega, by omega⟩
  case round =>
    obtain ⟨k, gn, cn, gl, cl, vs, hk, rfl, rfl, hpile, hrow, hbx, hbr, hb, hne1, hne2, hne3⟩ := hrel
    clear HP0 HO0 HX0 HR0 HB0
    by_cases hlt : k ≤ n
    · have hkl : (upL (List.range k)).length = k := by rw [upL_len, List.length_range]
      have hgl := (hrow.out.lt gl rfl)
      have hgn := (hpile.out.lt gn rfl)
      have hpc := hbx.out.1
      have hpf := hbx.out.2
      have hpl := block_of_cell hpc
      have hbd : Below wr.heap.size wr wr.drew := below_drewN (Below.refl _ _) 1
      have HKL := Lib.hid hkl
      have CO := Lib.hid fun (W : World) (hW : Below wr.heap.size wr W) => show Calls Try.prog 82 #[.slice (some ⟨gl, 0, none⟩) k cl] W fun e w' => ∃ g c', e = .returned (.slice (some ⟨g, 0, none⟩) k c') ∧ OwnI w' W.heap.size (.slice (some ⟨g, 0, none⟩) k c') (upL (List.range k)) ∧ Below W.heap.size W w' from by
        have hr := hrow.out.below hW
        have h0 := l1Own_calls gl cl (upL (List.range k)) W (by rw [HKL.out]; omega) (fun j u hj => World.ownsRow.cells hr (g := gl) rfl j u hj) (by have := hW.size; omega)
        rw [HKL.out] at h0
        exact h0
      have HPL : Hid (((starT k).map upN).length = k) := Lib.hid (by rw [List.length_map, starT_len])
      have HPI := Lib.hid hpile.out
      have hpd : wr.drew.cell? ⟨w.heap.size + 1 + 1, 0, none⟩ = some (.slice (some ⟨gn, 0, none⟩) k cn) := hpc
      have k1 : (k : Int) ≤ n := by omega
      clear hkl
      go_wp2
      go_region_law (first
        | (refine step_app_nd_at rfl _ _ rfl ((HPI.out.below HBb).below ((Below.refl _ _).alloc (Nat.le_refl _) _)).row rfl (src_nd (B := wb.heap.size) (v1 := .slice (some ⟨g1, 0, none⟩) k c1) (v2 := .slice (some ⟨g2, 0, none⟩) k c2) (by go_simp) (by go_simp) rfl rfl) rfl (by rw [HPL.out]; omega) (by simp; have := HBb.size; omega) ?_; intro v7 w7 hown7 hgrow7 hat7; obtain ⟨g7, c7, rfl, _, hg7⟩ := hown7.form (by omega); have HAPP : Only _ w7 (fun g => g = gn) := Only.of_grown hgrow7 (fun g e => by injection e with e; exact e.symm); have p7c := (HAPP.cell (o := 0) (by simp; have := HBb.size; omega) (fun e => hne2 e.symm)).trans pdc; have p7f := (HAPP.frozen (o := 0) (by simp; have := HBb.size; omega) (fun e => hne2 e.symm)).trans pdf)
        | (go_simp; go_at_call 82; (with_reducible refine (CO.out _ hbd).mono ?_); rintro e wa ⟨g1, c1, rfl, ho1, hba⟩; have HBa : Below wr.heap.size wr wa := hbd.trans (hba.mono (by simp)); have pda := (bcell HBa _ _ hpl).trans hpc)
        | (go_simp; go_at_call 82; (with_reducible refine (CO.out wa HBa).mono ?_); rintro e wb ⟨g2, c2, rfl, ho2, hbb⟩; have HBb : Below wr.heap.size wr wb := HBa.trans (hbb.mono HBa.size); have pdb := (bcell HBb _ _ hpl).trans hpc; have HBc : Below wr.heap.size wr (wb.alloc (.cells #[.slice (some ⟨g1, 0, none⟩) k c1, .slice (some ⟨g2, 0, none⟩) k c2] 73)) := HBb.trans (((Below.refl _ _).alloc (Nat.le_refl _) _).mono HBb.size); have pdc := (bcell HBc _ _ hpl).trans hpc; have pdf := (HBc.frozen (p := ⟨w.heap.size + 1 + 1, 0, none⟩) hpl).trans hpf))
      all_goals
        have hzb := HBb.size
        have hzl : (wb.alloc (.cells #[.slice (some ⟨g1, 0, none⟩) k c1, .slice (some ⟨g2, 0, none⟩) k c2] 73)).heap.size = wb.heap.size + 1 := by simp
        have hlit : Below wb.heap.size wb (wb.alloc (.cells #[.slice (some ⟨g1, 0, none⟩) k c1, .slice (some ⟨g2, 0, none⟩) k c2] 73)) := (Below.refl _ _).alloc (Nat.le_refl _) _
        have PS := (HPI.out.below HBc).snoc (p := (.slice (some ⟨g1, 0, none⟩) k c1, .slice (some ⟨g2, 0, none⟩) k c2)) (nd := (upL (List.range k), upL (List.range k))) hgrow7 hown7 hat7 (intsV_own (w := wr) HPI.out (fun g e => by rcases e with (e | e) | e <;> omega) ho1 (Nat.le_refl _) (hbb.trans (hlit.mono hbb.size))) (intsV_own (w := wr) HPI.out (fun g e => by rcases e with (e | e) | e <;> omega) ho2 HBa.size hlit)
        rw [← starT_up, HPL.out] at PS
        have hat : g7 = gn ∨ g7 = wb.heap.size + 1 := by
          rcases hat7 with e | e
          · left; injection e
          · right; rw [hzl] at e; injection e
        rw [HPL.out] at hown7
        have O7 : Only w7 (w7.setCell ⟨w.heap.size + 1 + 1, 0, none⟩ (.slice (some ⟨g7, 0, none⟩) (k + 1) c7)) (fun g => g = w.heap.size + 1 + 1) := Only.of_set (F := fun g => g = w.heap.size + 1 + 1) (p := ⟨w.heap.size + 1 + 1, 0, none⟩) _ rfl
        have hs7 : wb.heap.size + 1 ≤ w7.heap.size := by have := HAPP.size; rw [hzl] at this; exact this
        have P8 := Lib.hid (PS.only (O7.mono (fun _ _ e => Or.inl (Or.inr e))) (fun g e h => by
          have h1 := own_eqp e
          have h2 := (PS.lt g e).1
          rcases h with (h | h) | h <;> omega))
        have R8 := Lib.hid (((hrow.out.below HBc).only HAPP (fun g e h => by have := own_eqp e; omega)).only O7 (fun g e h => by have := own_eqp e; omega))
        have X8 : Hid (BoxAt (w7.setCell ⟨w.heap.size + 1 + 1, 0, none⟩ (.slice (some ⟨g7, 0, none⟩) (k + 1) c7)) (w.heap.size + 1 + 1) (.slice (some ⟨g7, 0, none⟩) (k + 1) c7)) := Lib.hid ⟨World.cell?_setCell_same _ _ _ p7c, by rw [World.frozen?_setCell]; exact p7f⟩
        have Q8 := Lib.hid (((hbr.out.below HBc).only HAPP (by omega)).only O7 (by omega))
        have B8 := Lib.hid (((hb.out.trans (HBc.mono hb.out.size)).trans (HAPP.below (base := w.heap.size) (by have := hb.out.size; omega) (fun g e => by omega))).trans (O7.below (by have := hb.out.size; omega) (fun g e => by omega)))
        have hz8 : w7.heap.size ≤ (w7.setCell ⟨w.heap.size + 1 + 1, 0, none⟩ (.slice (some ⟨g7, 0, none⟩) (k + 1) c7)).heap.size := by simp
        rw [starT_len]
        clear PS hown7 hgrow7 hat7 HAPP O7 p7c p7f pdc pdf pdb pda HBa HBb HBc hba hbb ho1 ho2 hlit HPI hpile hrow hbx hbr hb hpc hpf hpd hbd CO
        go_upto_region 7 with fail
        generalize w7.setCell ⟨w.heap.size + 1 + 1, 0, none⟩ (.slice (some ⟨g7, 0, none⟩) (k + 1) c7) = w8 at P8 R8 X8 Q8 B8 hz8 ⊢
        have hgl8 := (R8.out.lt gl rfl)
        have hgn8 := (P8.out.lt g7 rfl)
        have hne7 : g7 ≠ gl := by omega
        have hne8 : g7 ≠ w.heap.size + 1 + 1 := by omega
        have hx8 := block_of_cell X8.out.1
        have hq8 := block_of_cell Q8.out.1
        have hrow8 := Lib.hid (World.ownsRow.alloc R8.out (.cells #[.int .i64 (k : Int)] 3))
        rw [HKL.out] at hrow8
        go_wp2_with (at_builtin; refine wpList_append_own_at _ rfl _ _ 53 rfl (w.heap.size + 1) 3 i0 (.int .i64 0) 1 8 Try.underlying53 hi0 hz0 hz1 hz2 rfl (by decide) _ _ _ rfl hrow8.out ⟨w8.heap.size, 0, none⟩ 1 1 [.int .i64 (k : Int)] rfl rfl (cell_one_new _ _ _) (by simp [Value.oneCell']) (by unfold maxLen; omega) (by omega) (by simp; omega) ?_; intro v9 w9 hown9 hgrow9 hnil9 hat9)
        obtain ⟨g9, c9, rfl, _, hg9⟩ := hown9.form (by omega)
        have hL : Below w8.heap.size w8 (w8.alloc (.cells #[.int .i64 (k : Int)] 3)) := (Below.refl _ _).alloc (Nat.le_refl _) _
        have hzL : (w8.alloc (.cells #[.int .i64 (k : Int)] 3)).heap.size = w8.heap.size + 1 := by simp
        have HAPP : Only (w8.alloc (.cells #[.int .i64 (k : Int)] 3)) w9 (fun g => g = gl) := Only.of_grown hgrow9 (fun g e => (own_eqp e).symm)
        have hat : g9 = gl ∨ g9 = w8.heap.size + 1 := by
          rcases hat9 with h | h
          · left; exact (own_eqp h.symm).symm
          · right; rw [hzL] at h; exact own_eqp h
        have S1 : Hid (PileZ w9 (w.heap.size + 1) (.slice (some ⟨g7, 0, none⟩) (k + 1) c7) (vs ++ [(.slice (some ⟨g1, 0, none⟩) k c1, .slice (some ⟨g2, 0, none⟩) k c2)]) ((starT (k + 1)).map upN) (fun g => (g = g9 ∨ g = w.heap.size + 1 + 1) ∨ g < w.heap.size + 1)) := Lib.hid (
          (((P8.out.below hL).reX (Y := fun g => ((g = gl ∨ g = w.heap.size + 1 + 1) ∨ g < w.heap.size + 1) ∨ g = w8.heap.size + 1) (fun g hg e => e.resolve_right (by rw [hzL] at hg; omega))).only (HAPP.mono (fun _ _ e => Or.inl (Or.inl (Or.inl e)))) (fun g e h => by
            have := own_eqp e
            rcases h with ((h | h) | h) | h <;> omega)).reX (fun g _ e => by
            rcases e with (e | e) | e
            · rcases hat with h | h
              · exact Or.inl (Or.inl (Or.inl (e.trans h)))
              · exact Or.inr (e.trans h)
            · exact Or.inl (Or.inl (Or.inr e))
            · exact Or.inl (Or.inr e)))
        have S2 : Hid (OwnI w9 (w.heap.size + 1) (.slice (some ⟨g9, 0, none⟩) (k + 1) c9) (upL (List.range (k + 1)))) := Lib.hid (by
          have e1 : upL (List.range (k + 1)) = upL (List.range k) ++ [(k : Int)] := by unfold upL; rw [List.range_succ, List.map_append]; rfl
          rw [e1]
          unfold OwnI
          rw [List.map_append, List.length_append, HKL.out]
          exact hown9)
        have S3 := Lib.hid ((X8.out.below hL).only HAPP (by omega))
        have S4 := Lib.hid ((Q8.out.below hL).only HAPP (by omega))
        have S5 := Lib.hid ((B8.out.trans (hL.mono B8.out.size)).trans (HAPP.below (base := w.heap.size) (by have := B8.out.size; omega) (fun g e => by omega)))
        have hf1 : g7 ≠ g9 := by omega
        have hf2 : g9 ≠ w.heap.size + 1 + 1 := by omega
        clear hown9 hgrow9 hnil9 hat9 hL HAPP P8 R8 X8 Q8 B8 hrow8
        go_wp2
        go_roundw
        case rel => exact ⟨k + 1, g7, c7, g9, c9, _, by omega, by go_num, rfl, S1, S2, S3, S4, S5, hf1, hne8, hf2⟩
        case measure => first | (simp [intOf]; done) | (simp [intOf]; omega)
    · have hke : k = n + 1 := by omega
      subst hke
      obtain ⟨d1, z1⟩ := hbr.out
      have hpc := hbx.out.1
      have hlt1 := block_of_cell d1
      have k1 : ¬ ((n + 1 : Nat) : Int) ≤ n := by omega
      have hbs := hb.out.size
      have HN : Hid (NodesZ (wr.setCell ⟨w.heap.size, 0, none⟩ (.slice (some ⟨gn, 0, none⟩) (n + 1) cn)) w.heap.size (wr.setCell ⟨w.heap.size, 0, none⟩ (.slice (some ⟨gn, 0, none⟩) (n + 1) cn)).heap.size (.slice (some ⟨gn, 0, none⟩) (n + 1) cn) ((starT (n + 1)).map upN)) := Lib.hid ((NodesZ.keep (hpile.out.nodesL (m := w.heap.size + 1) (Nat.le_refl _) (fun g hg => Or.inr hg)) (fun b o h1 h2 => World.cell?_setCell_other _ _ _ _ (fun e => by injection e with e _ _; omega))).wide (by omega) (by simp))
      have HB : Hid (Below w.heap.size w (wr.setCell ⟨w.heap.size, 0, none⟩ (.slice (some ⟨gn, 0, none⟩) (n + 1) cn))) := Lib.hid (hb.out.setCell (Nat.le_refl _) _)
      have hcr := World.cell?_setCell_same wr ⟨w.heap.size, 0, none⟩ (.slice (some ⟨gn, 0, none⟩) (n + 1) cn) d1
      clear hpile hrow hbx hbr hb
      go_wp2_with fail
      exact bodyPost_ret (v := .agg #[.slice (some ⟨gn, 0, none⟩) (n + 1) cn]) (by simp [results, Try.results40, go_sem, hcr]) rfl ⟨some ⟨gn, 0, none⟩, cn, rfl, HN.out, HB.out⟩
end

section
set_option linter.unusedVariables false
set_option linter.unusedSimpArgs false
open Go.RowKit

theorem formsZ_one {w : World} {B : Nat} {v : Value} {f : List Nz} {lo hi : Nat} (hc : w.cell? ⟨B, 0, none⟩ = some v) (hn : NodesZ w lo hi v f) (h1 : lo ≤ B) (h2 : B < hi) : FormsZ w lo hi (.slice (some ⟨B, 0, none⟩) 1 1) [f] :=
  ⟨_, 1, rfl, ⟨Nat.le_refl _, by simp⟩, fun j g hj => by
    have h0 := get_lt hj
    simp at h0
    subst h0
    simp at hj
    subst hj
    exact ⟨B, 0, v, rfl, h1, h2, hc, hn⟩⟩
theorem formsZ_two {w : World} {B : Nat} {v1 v2 : Value} {f1 f2 : List Nz} {lo hi : Nat} (hc1 : w.cell? ⟨B, 0, none⟩ = some v1) (hc2 : w.cell? ⟨B, 1, none⟩ = some v2) (hn1 : NodesZ w lo hi v1 f1) (hn2 : NodesZ w lo hi v2 f2) (h1 : lo ≤ B) (h2 : B < hi) : FormsZ w lo hi (.slice (some ⟨B, 0, none⟩) 2 2) [f1, f2] :=
  ⟨_, 2, rfl, ⟨Nat.le_refl _, by simp⟩, fun j g hj => by
    have h0 := get_lt hj
    simp at h0
    rcases (show j = 0 ∨ j = 1 by omega) with rfl | rfl
    · simp at hj
      subst hj
      exact ⟨B, 0, v1, rfl, h1, h2, hc1, hn1⟩
    · simp at hj
      subst hj
      exact ⟨B, 0, v2, rfl, h1, h2, hc2, hn2⟩⟩

def FormPost (w : World) (f : List Nz) (e : Ending) (w' : World) : Prop := ∃ a c, e = .returned (.agg #[.slice a f.length c]) ∧ NodesZ w' w.heap.size w'.heap.size (.slice a f.length c) f ∧ Below w.heap.size w w'

theorem zeroS_calls (w : World) : Calls Try.prog 64 #[] w (FormPost w (zeroD.map upN)) := by
  go_enter Try.func64, Try.ntmps64
  go_wp2_with fail
  have z1 : (w.alloc (.cells #[.slice (some ⟨w.heap.size + 1, 0, none⟩) 1 1] 24)).heap.size = w.heap.size + 1 := by simp
  have b1 : Below w.heap.size w (w.alloc (.cells #[.slice (some ⟨w.heap.size + 1, 0, none⟩) 1 1] 24)) := (Below.refl _ _).alloc (Nat.le_refl _) _
  have b2 : Below (w.alloc (.cells #[.slice (some ⟨w.heap.size + 1, 0, none⟩) 1 1] 24)).heap.size (w.alloc (.cells #[.slice (some ⟨w.heap.size + 1, 0, none⟩) 1 1] 24)) ((w.alloc (.cells #[.slice (some ⟨w.heap.size + 1, 0, none⟩) 1 1] 24)).alloc (.cells #[.slice none 0 0, .slice none 0 0] 73)) := (Below.refl _ _).alloc (Nat.le_refl _) _
  have hcr : ((w.alloc (.cells #[.slice (some ⟨w.heap.size + 1, 0, none⟩) 1 1] 24)).alloc (.cells #[.slice none 0 0, .slice none 0 0] 73)).cell? ⟨w.heap.size, 0, none⟩ = some (.slice (some ⟨w.heap.size + 1, 0, none⟩) 1 1) := (bcell b2 _ _ (by simp)).trans (by go_simp)
  have n1 : ((w.alloc (.cells #[.slice (some ⟨w.heap.size + 1, 0, none⟩) 1 1] 24)).alloc (.cells #[.slice none 0 0, .slice none 0 0] 73)).cell? ⟨w.heap.size + 1, 0, none⟩ = some (.slice none 0 0) := by rw [← z1]; go_simp
  have n2 : ((w.alloc (.cells #[.slice (some ⟨w.heap.size + 1, 0, none⟩) 1 1] 24)).alloc (.cells #[.slice none 0 0, .slice none 0 0] 73)).cell? ⟨w.heap.size + 1, 1, none⟩ = some (.slice none 0 0) := by rw [← z1]; go_simp
  have hz : ((w.alloc (.cells #[.slice (some ⟨w.heap.size + 1, 0, none⟩) 1 1] 24)).alloc (.cells #[.slice none 0 0, .slice none 0 0] 73)).heap.size = w.heap.size + 2 := by simp
  refine bodyPost_ret (v := .agg #[.slice (some ⟨w.heap.size + 1, 0, none⟩) 1 1]) (by simp [results, Try.results64, go_sem, hcr]) rfl ⟨some ⟨w.heap.size + 1, 0, none⟩, 1, rfl, ?_, below_via b1 b2⟩
  refine ⟨_, 1, rfl, ⟨Nat.le_refl _, by simp⟩, fun j nd hj => ?_⟩
  have h0 := get_lt hj
  have h1 : (zeroD.map upN).length = 1 := rfl
  rw [h1] at h0
  obtain rfl : j = 0 := by omega
  have e : nd = ([], []) := by
    have h2 : (zeroD.map upN)[0]? = some ([], []) := rfl
    rw [h2] at hj
    injection hj with hj
    exact hj.symm
  subst e
  exact ⟨w.heap.size + 1, 0, .slice none 0 0, .slice none 0 0, rfl, by omega, by rw [hz]; omega, n1, n2, ⟨none, 0, rfl, by simp, fun j x hx => by simp at hx⟩, ⟨none, 0, rfl, by simp, fun j x hx => by simp at hx⟩⟩

theorem fits_one {U : List Nd} (h : Fit U) : ∀ f ∈ [U], Fit f := fun f hf => by
  rw [List.mem_singleton] at hf
  subst hf
  exact h
theorem fits_two : ∀ f ∈ [zeroD, starT 2], Fit f := fun f hf => by
  rcases List.mem_cons.1 hf with h | h
  · rw [h]; exact zero_fit
  · exact fits_one ((starT_good 1 (by omega)).fit (by decide)) f h

set_option maxRecDepth 100000 in
set_option maxHeartbeats 4000000 in
theorem upsS_pos (u s : Nat) (hu : u ≤ 12) (hs : s ≤ 15) (w : World) : Calls Try.prog 45 #[.int .i64 u, .int .i64 s] w (FormPost w ((upD u s).map upN)) := by
  induction u generalizing s w with
  | zero =>
    have hb0 : Below w.heap.size w (w.alloc (.cells #[.slice none 0 0] 24)) := (Below.refl _ _).alloc (Nat.le_refl _) _
    have hx0 : BoxAt (w.alloc (.cells #[.slice none 0 0] 24)) w.heap.size (.slice none 0 0) := ⟨by go_simp, by go_simp⟩
    have C := Lib.hid (l8Star_calls s (by omega) (w.alloc (.cells #[.slice none 0 0] 24)))
    have HB0 := Lib.hid hb0
    have HX0 := Lib.hid hx0
    clear hb0 hx0
    show Calls _ _ #[.int .i64 0, .int .i64 s] w _
    go_enter Try.func45, Try.ntmps45
    go_wp2_with fail
    refine C.out.mono ?_
    rintro e w1 ⟨a, c, rfl, hn, hb⟩
    obtain ⟨d1, z1⟩ := HX0.out.below hb
    have hlt := block_of_cell HX0.out.1
    have HL : Hid (((upD 0 s).map upN).length = s + 1) := Lib.hid (by rw [List.length_map, upD_zero, starT_len])
    have HN : Hid (NodesZ (w1.setCell ⟨w.heap.size, 0, none⟩ (.slice a (s + 1) c)) w.heap.size (w1.setCell ⟨w.heap.size, 0, none⟩ (.slice a (s + 1) c)).heap.size (.slice a (s + 1) c) ((upD 0 s).map upN)) := Lib.hid ((NodesZ.keep hn (fun b o h1 h2 => World.cell?_setCell_other _ _ _ _ (fun e => by injection e with e _ _; omega))).wide (by simp) (by simp))
    have HB : Hid (Below w.heap.size w (w1.setCell ⟨w.heap.size, 0, none⟩ (.slice a (s + 1) c))) := Lib.hid ((below_via HB0.out hb).setCell (Nat.le_refl _) _)
    have hcr := World.cell?_setCell_same w1 ⟨w.heap.size, 0, none⟩ (.slice a (s + 1) c) d1
    clear hn hb C
    go_wp2_with fail
    refine bodyPost_ret (v := .agg #[.slice a (s + 1) c]) (by simp [results, Try.results45, go_sem, hcr]) rfl ⟨a, c, ?_, ?_, HB.out⟩
    · rw [HL.out]
    · rw [HL.out]; exact HN.out
  | succ u ih =>
    have hb0 : Below w.heap.size w (w.alloc (.cells #[.slice none 0 0] 24)) := (Below.refl _ _).alloc (Nat.le_refl _) _
    have hx0 : BoxAt (w.alloc (.cells #[.slice none 0 0] 24)) w.heap.size (.slice none 0 0) := ⟨by go_simp, by go_simp⟩
    have CZ := Lib.hid (zeroS_calls (w.alloc (.cells #[.slice none 0 0] 24)))
    have HB0 := Lib.hid hb0
    have HX0 := Lib.hid hx0
    have ez : (zeroD.map upN).length = 1 := rfl
    by_cases h : u = 0 ∧ s = 1
    · obtain ⟨rfl, rfl⟩ := h
      clear hb0 hx0 ih
      show Calls _ _ #[.int .i64 1, .int .i64 1] w _
      go_enter Try.func45, Try.ntmps45
      go_wp2_with fail
      refine CZ.out.mono ?_
      rintro e w1 ⟨aw1, cw1, rfl, hnw1, hbw1⟩
      have HBw1 := Lib.hid (below_via HB0.out hbw1)
      have HXw1 := Lib.hid (HX0.out.below hbw1)
      have HNw1 := Lib.hid hnw1
      have CS := Lib.hid (l8Star_calls 1 (by omega) w1)
      have s1 := hbw1.size
      clear hnw1 hbw1 CZ
      rw [ez]
      go_wp2_with fail
      refine CS.out.mono ?_
      rintro e w2 ⟨a2, c2, rfl, hn2, hb2⟩
      have HB2 := Lib.hid (below_via HBw1.out hb2)
      have HX2 := Lib.hid (HXw1.out.below hb2)
      have hal : Below w2.heap.size w2 (w2.alloc (.cells #[.slice aw1 1 cw1, .slice a2 2 c2] 24)) := (Below.refl _ _).alloc (Nat.le_refl _) _
      have s2 := hb2.size
      have HN1 := Lib.hid ((HNw1.out.below hb2 (Nat.le_refl _)).below hal hb2.size)
      have HN2 := Lib.hid (hn2.below hal (Nat.le_refl _))
      have HBa := Lib.hid (below_via HB2.out hal)
      have HXa := Lib.hid (HX2.out.below hal)
      have t1 : (w2.alloc (.cells #[.slice aw1 1 cw1, .slice a2 2 c2] 24)).cell? ⟨w2.heap.size, 0, none⟩ = some (.slice aw1 1 cw1) := by go_simp
      have t2 : (w2.alloc (.cells #[.slice aw1 1 cw1, .slice a2 2 c2] 24)).cell? ⟨w2.heap.size, 1, none⟩ = some (.slice a2 2 c2) := by go_simp
      have za : w2.heap.size < (w2.alloc (.cells #[.slice aw1 1 cw1, .slice a2 2 c2] 24)).heap.size := by simp
      have CZ2 := Lib.hid (zeroS_calls (w2.alloc (.cells #[.slice aw1 1 cw1, .slice a2 2 c2] 24)))
      clear hn2 hb2 CS HNw1 HXw1 HX2
      go_wp2_with fail
      refine CZ2.out.mono ?_
      rintro e w3 ⟨a3, c3, rfl, hn3, hb3⟩
      rw [ez]
      have hal3 : Below w3.heap.size w3 (w3.alloc (.cells #[.slice a3 1 c3] 24)) := (Below.refl _ _).alloc (Nat.le_refl _) _
      have s3 := hb3.size
      have b23 := below_via hb3 hal3
      have HBL := Lib.hid (below_via HBa.out b23)
      have HXL := Lib.hid (HXa.out.below b23)
      have u1 := (bcell b23 _ _ za).trans t1
      have u2 := (bcell b23 _ _ za).trans t2
      have u3 : (w3.alloc (.cells #[.slice a3 1 c3] 24)).cell? ⟨w3.heap.size, 0, none⟩ = some (.slice a3 1 c3) := by go_simp
      have zl : (w3.alloc (.cells #[.slice a3 1 c3] 24)).heap.size = w3.heap.size + 1 := by simp
      have F1 := formsZ_two (lo := 0) (hi := (w3.alloc (.cells #[.slice a3 1 c3] 24)).heap.size) u1 u2 ((HN1.out.below b23 (by omega)).wide (Nat.zero_le _) (by omega)) ((HN2.out.below b23 (by omega)).wide (Nat.zero_le _) (by omega)) (Nat.zero_le _) (by omega)
      have F2 := formsZ_one (lo := 0) (hi := (w3.alloc (.cells #[.slice a3 1 c3] 24)).heap.size) u3 ((hn3.below hal3 (Nat.le_refl _)).wide (Nat.zero_le _) (by omega)) (Nat.zero_le _) (by omega)
      have CM := Lib.hid (l3Make_calls _ _ [zeroD, starT 2] [zeroD] _ 0 _ 0 _ (Nat.le_refl _) (Nat.le_refl _) F1 F2 fits_two (fits_one zero_fit) (by decide) (by decide))
      rw [up_star] at CM
      have s4 := HBL.out.size
      clear hn3 hb3 hal hal3 b23 t1 t2 u1 u2 u3 F1 F2 CZ2 HN1 HN2 HBa HXa
      go_wp2_with fail
      refine CM.out.mono ?_
      rintro e w9 ⟨v, rfl, hn9, hb9⟩
      obtain ⟨av, cv, hve⟩ := (show ∃ a c, v = .slice a ((starT 2 ++ [([0, 1], [0])]).map upN).length c from by obtain ⟨a, c, e, _⟩ := hn9; exact ⟨a, c, e⟩)
      subst hve
      obtain ⟨d9, z9⟩ := HXL.out.below hb9
      have hlt9 := block_of_cell HXL.out.1
      obtain ⟨F, hF⟩ : ∃ F, (starT 2 ++ [([0, 1], [0])]).map upN = F := ⟨_, rfl⟩
      rw [hF] at hn9 ⊢
      have HFE := Lib.hid hF
      have HN : Hid (NodesZ (w9.setCell ⟨w.heap.size, 0, none⟩ (.slice av F.length cv)) w.heap.size (w9.setCell ⟨w.heap.size, 0, none⟩ (.slice av F.length cv)).heap.size (.slice av F.length cv) F) := Lib.hid ((NodesZ.keep hn9 (fun b o h1 h2 => World.cell?_setCell_other _ _ _ _ (fun e => by injection e with e _ _; omega))).wide (by omega) (by simp))
      have HB : Hid (Below w.heap.size w (w9.setCell ⟨w.heap.size, 0, none⟩ (.slice av F.length cv))) := Lib.hid ((below_via HBL.out hb9).setCell (Nat.le_refl _) _)
      have hcr := World.cell?_setCell_same w9 ⟨w.heap.size, 0, none⟩ (.slice av F.length cv) d9
      clear hn9 hb9 CM hF
      go_wp2_with fail
      refine bodyPost_ret (v := .agg #[.slice av F.length cv]) (by simp [results, Try.results45, go_sem, hcr]) rfl ?_
      rw [← HFE.out] at *
      exact ⟨av, cv, rfl, HN.out, HB.out⟩
    · obtain ⟨hL, hl⟩ := upD_good u (s ^^^ 1) (by omega) (xor_small hs)
      have HIH := Lib.hid fun (W : World) => ih (s ^^^ 1) (by omega) (xor_small hs) W
      have HUP := Lib.hid (up_next u s hu hs h)
      have HFU := Lib.hid (hL.fit (by omega))
      have hx := xor_bits s hs
      have hw1 : IntKind.i64.wrap (((u + 1 : Nat) : Int) - 1) = (u : Int) := by rw [show ((u + 1 : Nat) : Int) - 1 = (u : Int) from by omega]; exact IntWalk.i64_in _ (by omega)
      obtain ⟨T, hT⟩ : ∃ T, upD (u + 1) s = T := ⟨_, rfl⟩
      obtain ⟨x, hxe⟩ : ∃ x, s ^^^ 1 = x := ⟨_, rfl⟩
      rw [hxe] at HIH hx HUP HFU
      rw [hT] at HUP
      obtain ⟨U, hU⟩ : ∃ U, upD u x = U := ⟨_, rfl⟩
      rw [hU] at HIH HUP HFU
      obtain ⟨N, hN⟩ : ∃ N, (U.map upN).length = N := ⟨_, rfl⟩
      have HN0 := Lib.hid hN
      rw [hT]
      rcases Nat.eq_zero_or_pos u with hu0 | hu0
      · subst hu0
        have hs1 : ¬ (s : Int) = 1 := by omega
        show Calls _ _ #[.int .i64 1, .int .i64 s] w _
        have HIH := Lib.hid fun (W : World) => show Calls Try.prog 45 #[.int .i64 0, .int .i64 x] W (FormPost W (U.map upN)) from HIH.out W
        clear h hL ih hb0 hx0 hT hxe hU hN hw1
        go_enter Try.func45, Try.ntmps45
        go_wp2_with fail
        refine CZ.out.mono ?_
        rintro e w1 ⟨aw1, cw1, rfl, hnw1, hbw1⟩
        rw [ez]
        have HB1 := Lib.hid (below_via HB0.out hbw1)
        have HX1 := Lib.hid (HX0.out.below hbw1)
        have hal : Below w1.heap.size w1 (w1.alloc (.cells #[.slice aw1 1 cw1] 24)) := (Below.refl _ _).alloc (Nat.le_refl _) _
        have s1 := hbw1.size
        have HN1 := Lib.hid (hnw1.below hal (Nat.le_refl _))
        have HBa := Lib.hid (below_via HB1.out hal)
        have HXa := Lib.hid (HX1.out.below hal)
        have t1 : (w1.alloc (.cells #[.slice aw1 1 cw1] 24)).cell? ⟨w1.heap.size, 0, none⟩ = some (.slice aw1 1 cw1) := by go_simp
        have za : w1.heap.size < (w1.alloc (.cells #[.slice aw1 1 cw1] 24)).heap.size := by simp
        have CR := Lib.hid (HIH.out (w1.alloc (.cells #[.slice aw1 1 cw1] 24)))
        clear hnw1 hbw1 CZ HX1 HB1 HIH
        go_wp2_with fail
        refine CR.out.mono ?_
        rintro e w3 ⟨a3, c3, rfl, hn3, hb3⟩
        rw [HN0.out]
        rw [HN0.out] at hn3
        have hal3 : Below w3.heap.size w3 (w3.alloc (.cells #[.slice a3 N c3] 24)) := (Below.refl _ _).alloc (Nat.le_refl _) _
        have s3 := hb3.size
        have b23 := below_via hb3 hal3
        have HBL := Lib.hid (below_via HBa.out b23)
        have HXL := Lib.hid (HXa.out.below b23)
        have u1 := (bcell b23 _ _ za).trans t1
        have u3 : (w3.alloc (.cells #[.slice a3 N c3] 24)).cell? ⟨w3.heap.size, 0, none⟩ = some (.slice a3 N c3) := by go_simp
        have zl : (w3.alloc (.cells #[.slice a3 N c3] 24)).heap.size = w3.heap.size + 1 := by simp
        have F1 := formsZ_one (lo := 0) (hi := (w3.alloc (.cells #[.slice a3 N c3] 24)).heap.size) u1 ((HN1.out.below b23 (by omega)).wide (Nat.zero_le _) (by omega)) (Nat.zero_le _) (by omega)
        have F2 := formsZ_one (lo := 0) (hi := (w3.alloc (.cells #[.slice a3 N c3] 24)).heap.size) u3 ((hn3.below hal3 (Nat.le_refl _)).wide (Nat.zero_le _) (by omega)) (Nat.zero_le _) (by omega)
        have CM := Lib.hid (l3Make_calls _ _ [zeroD] [U] _ 0 _ 0 _ (Nat.le_refl _) (Nat.le_refl _) F1 F2 (fits_one zero_fit) (fits_one HFU.out) (by simp) (by simp))
        rw [HUP.out] at CM
        have s4 := HBL.out.size
        clear hn3 hb3 hal hal3 b23 t1 u1 u3 F1 F2 CR HN1 HBa HXa
        go_wp2_with fail
        refine CM.out.mono ?_
        rintro e w9 ⟨v, rfl, hn9, hb9⟩
        obtain ⟨av, cv, hve⟩ := (show ∃ a c, v = .slice a (T.map upN).length c from by obtain ⟨a, c, e, _⟩ := hn9; exact ⟨a, c, e⟩)
        subst hve
        obtain ⟨d9, z9⟩ := HXL.out.below hb9
        have hlt9 := block_of_cell HXL.out.1
        obtain ⟨F, hF⟩ : ∃ F, T.map upN = F := ⟨_, rfl⟩
        rw [hF] at hn9 ⊢
        have HFE := Lib.hid hF
        have HN : Hid (NodesZ (w9.setCell ⟨w.heap.size, 0, none⟩ (.slice av F.length cv)) w.heap.size (w9.setCell ⟨w.heap.size, 0, none⟩ (.slice av F.length cv)).heap.size (.slice av F.length cv) F) := Lib.hid ((NodesZ.keep hn9 (fun b o h1 h2 => World.cell?_setCell_other _ _ _ _ (fun e => by injection e with e _ _; omega))).wide (by omega) (by simp))
        have HB : Hid (Below w.heap.size w (w9.setCell ⟨w.heap.size, 0, none⟩ (.slice av F.length cv))) := Lib.hid ((below_via HBL.out hb9).setCell (Nat.le_refl _) _)
        have hcr := World.cell?_setCell_same w9 ⟨w.heap.size, 0, none⟩ (.slice av F.length cv) d9
        clear hn9 hb9 CM hF
        go_wp2_with fail
        refine bodyPost_ret (v := .agg #[.slice av F.length cv]) (by simp [results, Try.results45, go_sem, hcr]) rfl ?_
        rw [← HFE.out] at *
        exact ⟨av, cv, rfl, HN.out, HB.out⟩
      · obtain ⟨m, hm⟩ : ∃ m, u + 1 = m := ⟨_, rfl⟩
        have hne0 : ¬ (m : Int) = 0 := by omega
        have hne1 : ¬ (m : Int) = 1 := by omega
        have hne2 : ¬ (m : Int) < 0 := by omega
        rw [hm] at hw1 ⊢
        clear h hL ih hb0 hx0 hT hxe hU hN hm hu0
        go_enter Try.func45, Try.ntmps45
        go_wp2_with fail
        refine CZ.out.mono ?_
        rintro e w1 ⟨aw1, cw1, rfl, hnw1, hbw1⟩
        rw [ez]
        have HB1 := Lib.hid (below_via HB0.out hbw1)
        have HX1 := Lib.hid (HX0.out.below hbw1)
        have hal : Below w1.heap.size w1 (w1.alloc (.cells #[.slice aw1 1 cw1] 24)) := (Below.refl _ _).alloc (Nat.le_refl _) _
        have s1 := hbw1.size
        have HN1 := Lib.hid (hnw1.below hal (Nat.le_refl _))
        have HBa := Lib.hid (below_via HB1.out hal)
        have HXa := Lib.hid (HX1.out.below hal)
        have t1 : (w1.alloc (.cells #[.slice aw1 1 cw1] 24)).cell? ⟨w1.heap.size, 0, none⟩ = some (.slice aw1 1 cw1) := by go_simp
        have za : w1.heap.size < (w1.alloc (.cells #[.slice aw1 1 cw1] 24)).heap.size := by simp
        have CR := Lib.hid (HIH.out (w1.alloc (.cells #[.slice aw1 1 cw1] 24)))
        clear hnw1 hbw1 CZ HX1 HB1 HIH
        go_wp2_with fail
        refine CR.out.mono ?_
        rintro e w3 ⟨a3, c3, rfl, hn3, hb3⟩
        rw [HN0.out]
        rw [HN0.out] at hn3
        have hal3 : Below w3.heap.size w3 (w3.alloc (.cells #[.slice a3 N c3] 24)) := (Below.refl _ _).alloc (Nat.le_refl _) _
        have s3 := hb3.size
        have b23 := below_via hb3 hal3
        have HBL := Lib.hid (below_via HBa.out b23)
        have HXL := Lib.hid (HXa.out.below b23)
        have u1 := (bcell b23 _ _ za).trans t1
        have u3 : (w3.alloc (.cells #[.slice a3 N c3] 24)).cell? ⟨w3.heap.size, 0, none⟩ = some (.slice a3 N c3) := by go_simp
        have zl : (w3.alloc (.cells #[.slice a3 N c3] 24)).heap.size = w3.heap.size + 1 := by simp
        have F1 := formsZ_one (lo := 0) (hi := (w3.alloc (.cells #[.slice a3 N c3] 24)).heap.size) u1 ((HN1.out.below b23 (by omega)).wide (Nat.zero_le _) (by omega)) (Nat.zero_le _) (by omega)
        have F2 := formsZ_one (lo := 0) (hi := (w3.alloc (.cells #[.slice a3 N c3] 24)).heap.size) u3 ((hn3.below hal3 (Nat.le_refl _)).wide (Nat.zero_le _) (by omega)) (Nat.zero_le _) (by omega)
        have CM := Lib.hid (l3Make_calls _ _ [zeroD] [U] _ 0 _ 0 _ (Nat.le_refl _) (Nat.le_refl _) F1 F2 (fits_one zero_fit) (fits_one HFU.out) (by simp) (by simp))
        rw [HUP.out] at CM
        have s4 := HBL.out.size
        clear hn3 hb3 hal hal3 b23 t1 u1 u3 F1 F2 CR HN1 HBa HXa
        go_wp2_with fail
        refine CM.out.mono ?_
        rintro e w9 ⟨v, rfl, hn9, hb9⟩
        obtain ⟨av, cv, hve⟩ := (show ∃ a c, v = .slice a (T.map upN).length c from by obtain ⟨a, c, e, _⟩ := hn9; exact ⟨a, c, e⟩)
        subst hve
        obtain ⟨d9, z9⟩ := HXL.out.below hb9
        have hlt9 := block_of_cell HXL.out.1
        obtain ⟨F, hF⟩ : ∃ F, T.map upN = F := ⟨_, rfl⟩
        rw [hF] at hn9 ⊢
        have HFE := Lib.hid hF
        have HN : Hid (NodesZ (w9.setCell ⟨w.heap.size, 0, none⟩ (.slice av F.length cv)) w.heap.size (w9.setCell ⟨w.heap.size, 0, none⟩ (.slice av F.length cv)).heap.size (.slice av F.length cv) F) := Lib.hid ((NodesZ.keep hn9 (fun b o h1 h2 => World.cell?_setCell_other _ _ _ _ (fun e => by injection e with e _ _; omega))).wide (by omega) (by simp))
        have HB : Hid (Below w.heap.size w (w9.setCell ⟨w.heap.size, 0, none⟩ (.slice av F.length cv))) := Lib.hid ((below_via HBL.out hb9).setCell (Nat.le_refl _) _)
        have hcr := World.cell?_setCell_same w9 ⟨w.heap.size, 0, none⟩ (.slice av F.length cv) d9
        clear hn9 hb9 CM hF
        go_wp2_with fail
        refine bodyPost_ret (v := .agg #[.slice av F.length cv]) (by simp [results, Try.results45, go_sem, hcr]) rfl ?_
        rw [← HFE.out] at *
        exact ⟨av, cv, rfl, HN.out, HB.out⟩

theorem NodesZ.shape {w : World} {lo hi : Nat} {v : Value} {f : List Nz} (h : NodesZ w lo hi v f) : ∃ a c, v = .slice a f.length c := by obtain ⟨a, c, e, _⟩ := h; exact ⟨a, c, e⟩
end

section
set_option linter.unusedVariables false
set_option linter.unusedSimpArgs false
open Go.RowKit

set_option maxRecDepth 100000 in
theorem upsS_neg (m s : Nat) (hm : m ≤ 12) (h0 : 0 < m) (hs : s ≤ 15) (w : World) : Calls Try.prog 45 #[.int .i64 (-(m : Int)), .int .i64 s] w (FormPost w (negV ((upD m s).map upN))) := by
  have hb0 : Below w.heap.size w (w.alloc (.cells #[.slice none 0 0] 24)) := (Below.refl _ _).alloc (Nat.le_refl _) _
  have hx0 : BoxAt (w.alloc (.cells #[.slice none 0 0] 24)) w.heap.size (.slice none 0 0) := ⟨by go_simp, by go_simp⟩
  have C := Lib.hid (upsS_pos m s hm hs (w.alloc (.cells #[.slice none 0 0] 24)))
  have HB0 := Lib.hid hb0
  have HX0 := Lib.hid hx0
  obtain ⟨hL, hl⟩ := upD_good m s hm hs
  have HFT := Lib.hid (hL.fit (by omega))
  have HGD := Lib.hid (negV_yes (upD_goodB hm hs))
  obtain ⟨U, hU⟩ : ∃ U, upD m s = U := ⟨_, rfl⟩
  rw [hU] at C HGD HFT ⊢
  rw [down_up] at HGD
  obtain ⟨g, hg⟩ : ∃ g, negV (U.map upN) = g := ⟨_, rfl⟩
  rw [hg] at HGD ⊢
  obtain ⟨n, hn⟩ : ∃ n : Int, -(m : Int) = n := ⟨_, rfl⟩
  have g5 : n < 0 := by omega
  have g6 : IntKind.i64.wrap (-n) = (m : Int) := by rw [← hn, Int.neg_neg]; exact IntWalk.i64_in _ (by omega)
  rw [hn]
  clear hU hb0 hx0 hg hn hL hl
  go_enter Try.func45, Try.ntmps45
  go_wp2_with fail
  refine C.out.mono ?_
  rintro e w1 ⟨a, c, rfl, hn1, hb1⟩
  have HB1 := Lib.hid (below_via HB0.out hb1)
  have HX1 := Lib.hid (HX0.out.below hb1)
  rw [List.length_map] at hn1 ⊢
  have CN := Lib.hid (l5Neg_calls _ U w1 _ _ (Nat.le_refl _) hn1 HFT.out.under HFT.out.pos (by have := HFT.out.most; omega) (fun nd hnd => by have := HFT.out.small nd hnd; omega))
  rw [← HGD.out] at CN
  have s1 := HB1.out.size
  clear hn1 hb1 C HX0
  go_wp2_with fail
  refine CN.out.mono ?_
  rintro e w9 ⟨v, rfl, hn9, hb9⟩
  obtain ⟨av, cv, rfl⟩ := hn9.shape
  obtain ⟨d9, z9⟩ := HX1.out.below hb9
  have hlt9 := block_of_cell HX1.out.1
  have HN : Hid (NodesZ (w9.setCell ⟨w.heap.size, 0, none⟩ (.slice av g.length cv)) w.heap.size (w9.setCell ⟨w.heap.size, 0, none⟩ (.slice av g.length cv)).heap.size (.slice av g.length cv) g) := Lib.hid ((NodesZ.keep hn9 (fun b o h1 h2 => World.cell?_setCell_other _ _ _ _ (fun e => by injection e with e _ _; omega))).wide (by omega) (by simp))
  have HB : Hid (Below w.heap.size w (w9.setCell ⟨w.heap.size, 0, none⟩ (.slice av g.length cv))) := Lib.hid ((below_via HB1.out hb9).setCell (Nat.le_refl _) _)
  have hcr := World.cell?_setCell_same w9 ⟨w.heap.size, 0, none⟩ (.slice av g.length cv) d9
  clear hn9 hb9 CN
  go_wp2_with fail
  exact bodyPost_ret (v := .agg #[.slice av g.length cv]) (by simp [results, Try.results45, go_sem, hcr]) rfl ⟨av, cv, rfl, HN.out, HB.out⟩

def UpPostS (w : World) (g : List Nz) (ok : Bool) (e : Ending) (w' : World) : Prop := ∃ a c, e = .returned (.tuple #[.agg #[.slice a g.length c], .bool ok]) ∧ NodesZ w' w.heap.size w'.heap.size (.slice a g.length c) g ∧ Below w.heap.size w w'
theorem upPostS_none {w w' : World} {e : Ending} (he : e = .returned (.tuple #[.agg #[.slice none 0 0], .bool false])) (hb : Below w.heap.size w w') : UpPostS w [] false e w' := ⟨none, 0, he, ⟨none, 0, rfl, by simp, fun j nd hj => by simp at hj⟩, hb⟩

theorem upsS_all (n s : Int) (g : List Nz) (hok : upOk n s = true) (hg : upV n s = g) (w : World) : Calls Try.prog 45 #[.int .i64 n, .int .i64 s] w (FormPost w g) := by
  obtain ⟨m, x, hm, hx, h1, rfl, h3, h4⟩ := upOk_parts hok
  rcases h4 with rfl | ⟨rfl, h5⟩
  · rw [← hg, upV_pos hok (by omega), h1, h3]
    exact upsS_pos m x hm hx w
  · rw [← hg, upV_neg hok (by omega), h1, h3]
    exact upsS_neg m x hm h5 hx w

theorem upV_fits {n s : Int} (hok : upOk n s = true) : ∃ P, upV n s = P.map upN ∧ fitsN P = true := by
  obtain ⟨m, x, hm, hx, h1, rfl, h3, h4⟩ := upOk_parts hok
  have hg := upD_goodB hm hx
  obtain ⟨hL, hl⟩ := upD_good m x hm hx
  rcases h4 with rfl | ⟨rfl, h5⟩
  · refine ⟨upD m x, by rw [upV_pos hok (by omega), h1, h3], ?_⟩
    exact (fitsN_iff _).2 ((goodB_iff _).1 hg).1
  · refine ⟨formM (swapN (((upD m x).map upN).map downN)), by rw [upV_neg hok (by omega), h1, h3, negV_yes hg], neg_fits _ hg⟩

set_option maxRecDepth 100000 in
set_option maxHeartbeats 1000000 in
theorem upsFS_calls (n s : Int) (g : List Nz) (ok : Bool) (hok : Hid (upOk n s = ok)) (hg : Hid (upV n s = g)) (w : World) : Calls Try.prog 16 #[.int .i64 n, .int .i64 s] w (UpPostS w g ok) := by
  have hb0 : Below w.heap.size w (w.alloc (.cells #[.slice none 0 0] 24)) := (Below.refl _ _).alloc (Nat.le_refl _) _
  have hx0 : BoxAt (w.alloc (.cells #[.slice none 0 0] 24)) w.heap.size (.slice none 0 0) := ⟨by go_simp, by go_simp⟩
  have HB0 := Lib.hid hb0
  have HX0 := Lib.hid hx0
  cases ok with
  | false =>
    obtain rfl : g = [] := by rw [← hg.out, upV_no hok.out]
    have hcase : (n < -12 ∨ 12 < n) ∨ ((-12 ≤ n ∧ n ≤ 12) ∧ (s < 0 ∨ 15 < s)) := by
      have h1 : ¬ ((-12 ≤ n ∧ n ≤ 12) ∧ (0 ≤ s ∧ s ≤ 15)) := fun e => by have := (upOk_iff n s).2 e; rw [hok.out] at this; cases this
      omega
    clear hok hg hb0 hx0
    rcases hcase with h | ⟨⟨h1, h2⟩, h⟩
    · have C := Lib.hid (l1In_no n (-12) 12 (w.alloc (.cells #[.slice none 0 0] 24)) h)
      clear h
      go_enter Try.func16, Try.ntmps16
      go_wp2_with fail
      refine C.out.mono ?_
      rintro e w1 ⟨rfl, rfl⟩
      go_wp2_with fail
      exact bodyPost_ret (v := .tuple #[.agg #[.slice none 0 0], .bool false]) (by simp [results, Try.results16, go_sem]) rfl (upPostS_none rfl HB0.out)
    · have C := Lib.hid (l1In_yes n (-12) 12 (w.alloc (.cells #[.slice none 0 0] 24)) h1 h2)
      have C2 := Lib.hid (l1In_no s 0 15 (w.alloc (.cells #[.slice none 0 0] 24)) h)
      clear h h1 h2
      go_enter Try.func16, Try.ntmps16
      go_wp2_with fail
      refine C.out.mono ?_
      rintro e w1 ⟨rfl, rfl⟩
      go_wp2_with fail
      refine C2.out.mono ?_
      rintro e w2 ⟨rfl, rfl⟩
      go_wp2_with fail
      exact bodyPost_ret (v := .tuple #[.agg #[.slice none 0 0], .bool false]) (by simp [results, Try.results16, go_sem]) rfl (upPostS_none rfl HB0.out)
  | true =>
    obtain ⟨⟨h1, h2⟩, h3, h4⟩ := (upOk_iff n s).1 hok.out
    have C := Lib.hid (l1In_yes n (-12) 12 (w.alloc (.cells #[.slice none 0 0] 24)) h1 h2)
    have C2 := Lib.hid (l1In_yes s 0 15 (w.alloc (.cells #[.slice none 0 0] 24)) h3 h4)
    have C3 := Lib.hid (upsS_all n s g hok.out hg.out (w.alloc (.cells #[.slice none 0 0] 24)))
    have HFI : Hid (fitsB g = true) := Lib.hid (by
      obtain ⟨P, e1, e2⟩ := upV_fits hok.out
      rw [← hg.out, e1, ← fitsN_B]
      exact e2)
    clear hok hg hb0 hx0 h1 h2 h3 h4
    go_enter Try.func16, Try.ntmps16
    go_wp2_with fail
    refine C.out.mono ?_
    rintro e w1 ⟨rfl, rfl⟩
    go_wp2_with fail
    refine C2.out.mono ?_
    rintro e w2 ⟨rfl, rfl⟩
    go_wp2_with fail
    refine C3.out.mono ?_
    rintro e w3 ⟨a, c, rfl, hn3, hb3⟩
    have HB3 := Lib.hid (below_via HB0.out hb3)
    have HX3 := Lib.hid (HX0.out.below hb3)
    have HN3 := Lib.hid hn3
    have C4 := Lib.hid (l3If_calls (.slice a g.length c) g true HFI w3 _ _ (Nat.le_refl _) hn3)
    clear hn3 hb3 C3
    go_wp2_with fail
    refine C4.out.mono ?_
    rintro e w4 ⟨rfl, hb4⟩
    obtain ⟨d4, z4⟩ := HX3.out.below hb4
    have hlt := block_of_cell HX0.out.1
    have HN4 := Lib.hid (HN3.out.below hb4 (Nat.le_refl _))
    have s4 := hb4.size
    have HN : Hid (NodesZ (w4.setCell ⟨w.heap.size, 0, none⟩ (.slice a g.length c)) w.heap.size (w4.setCell ⟨w.heap.size, 0, none⟩ (.slice a g.length c)).heap.size (.slice a g.length c) g) := Lib.hid ((NodesZ.keep HN4.out (fun b o h1 h2 => World.cell?_setCell_other _ _ _ _ (fun e => by injection e with e _ _; omega))).wide (by simp) (by simp; omega))
    have HB : Hid (Below w.heap.size w (w4.setCell ⟨w.heap.size, 0, none⟩ (.slice a g.length c))) := Lib.hid ((below_via HB3.out hb4).setCell (Nat.le_refl _) _)
    have hcr := World.cell?_setCell_same w4 ⟨w.heap.size, 0, none⟩ (.slice a g.length c) d4
    clear hb4 C4 HN3
    go_wp2_with fail
    exact bodyPost_ret (v := .tuple #[.agg #[.slice a g.length c], .bool true]) (by simp [results, Try.results16, go_sem, hcr]) rfl ⟨a, c, rfl, HN.out, HB.out⟩

theorem upOk_zero (n : Int) : upOk 0 n = true ↔ 0 ≤ n ∧ n ≤ 15 := by rw [upOk_iff]; omega

set_option maxRecDepth 100000 in
set_option maxHeartbeats 1000000 in
theorem starFS_calls (n : Int) (g : List Nz) (ok : Bool) (hok : Hid (upOk 0 n = ok)) (hg : Hid (upV 0 n = g)) (w : World) : Calls Try.prog 11 #[.int .i64 n] w (UpPostS w g ok) := by
  have hb0 : Below w.heap.size w (w.alloc (.cells #[.slice none 0 0] 24)) := (Below.refl _ _).alloc (Nat.le_refl _) _
  have hx0 : BoxAt (w.alloc (.cells #[.slice none 0 0] 24)) w.heap.size (.slice none 0 0) := ⟨by go_simp, by go_simp⟩
  have HB0 := Lib.hid hb0
  have HX0 := Lib.hid hx0
  cases ok with
  | false =>
    obtain rfl : g = [] := by rw [← hg.out, upV_no hok.out]
    have h : n < 0 ∨ 15 < n := by
      have h1 : ¬ (0 ≤ n ∧ n ≤ 15) := fun e => by have := (upOk_zero n).2 e; rw [hok.out] at this; cases this
      omega
    have C := Lib.hid (l1In_no n 0 15 (w.alloc (.cells #[.slice none 0 0] 24)) h)
    clear hok hg hb0 hx0 h
    go_enter Try.func11, Try.ntmps11
    go_wp2_with fail
    refine C.out.mono ?_
    rintro e w1 ⟨rfl, rfl⟩
    go_wp2_with fail
    exact bodyPost_ret (v := .tuple #[.agg #[.slice none 0 0], .bool false]) (by simp [results, Try.results11, go_sem]) rfl (upPostS_none rfl HB0.out)
  | true =>
    obtain ⟨h1, h2⟩ := (upOk_zero n).1 hok.out
    obtain ⟨x, rfl⟩ : ∃ x : Nat, n = (x : Int) := ⟨n.toNat, by omega⟩
    have hgx : g = (starT (x + 1)).map upN := by
      rw [← hg.out, upV_pos hok.out (by omega)]
      rfl
    have C := Lib.hid (l1In_yes (x : Int) 0 15 (w.alloc (.cells #[.slice none 0 0] 24)) h1 h2)
    have C2 := Lib.hid (l8Star_calls x (by omega) (w.alloc (.cells #[.slice none 0 0] 24)))
    rw [← hgx] at C2
    have HL : Hid (x + 1 = g.length) := Lib.hid (by rw [hgx, List.length_map, starT_len])
    rw [HL.out] at C2
    clear hok hg hb0 hx0 h1 h2 hgx
    go_enter Try.func11, Try.ntmps11
    go_wp2_with fail
    refine C.out.mono ?_
    rintro e w1 ⟨rfl, rfl⟩
    go_wp2_with fail
    refine C2.out.mono ?_
    rintro e w4 ⟨a, c, rfl, hn4, hb4⟩
    obtain ⟨d4, z4⟩ := HX0.out.below hb4
    have hlt := block_of_cell HX0.out.1
    have HN : Hid (NodesZ (w4.setCell ⟨w.heap.size, 0, none⟩ (.slice a g.length c)) w.heap.size (w4.setCell ⟨w.heap.size, 0, none⟩ (.slice a g.length c)).heap.size (.slice a g.length c) g) := Lib.hid ((NodesZ.keep hn4 (fun b o h1 h2 => World.cell?_setCell_other _ _ _ _ (fun e => by injection e with e _ _; omega))).wide (by simp) (by simp))
    have HB : Hid (Below w.heap.size w (w4.setCell ⟨w.heap.size, 0, none⟩ (.slice a g.length c))) := Lib.hid ((below_via HB0.out hb4).setCell (Nat.le_refl _) _)
    have hcr := World.cell?_setCell_same w4 ⟨w.heap.size, 0, none⟩ (.slice a g.length c) d4
    clear hn4 hb4 C2
    go_wp2_with fail
    exact bodyPost_ret (v := .tuple #[.agg #[.slice a g.length c], .bool true]) (by simp [results, Try.results11, go_sem, hcr]) rfl ⟨a, c, rfl, HN.out, HB.out⟩
end

section
open Go.RowKit
set_option linter.unusedVariables false
set_option linter.unusedSimpArgs false

theorem infoFormA : (Try.prog.info? 24).map (fun i => (i.zero, i.size, i.bytes)) = some (some (.agg #[.slice none 0 0]), 1, 24) := by kernel_rfl

theorem OwnFS.put {w : World} {base j g c N : Nat} {ps : List (Value × List (Value × Value))} {Fs : List (List Nz)} {f : List Nz} {p : Value × List (Value × Value)} (h : OwnFS w base (.slice (some ⟨g, 0, none⟩) Fs.length c) ps Fs) (hj : j < Fs.length) (hf : OwnF w base p.1 p.2 f)
    (hN : ∀ b, AllF p b → N ≤ b) (hlt : ∀ b, AllFS (.slice (some ⟨g, 0, none⟩) Fs.length c) ps b → b < N) : OwnFS (w.setCell ⟨g, j, none⟩ p.1) base (.slice (some ⟨g, 0, none⟩) Fs.length c) (ps.set j p) (Fs.set j f) := by
  have s1 := World.ownsRow.stored h.row j p.1
  rw [← List.map_set] at s1
  have hv : (Value.slice (some ⟨g, 0, none⟩) Fs.length c).ownBlock = some g := rfl
  have hgN := hlt g (Or.inl hv)
  have ho : Only w (w.setCell ⟨g, j, none⟩ p.1) (fun b => b = g) := Only.of_set (F := fun b => b = g) (p := ⟨g, j, none⟩) p.1 rfl
  have hpl : ∀ (i : Nat) (q : Value × List (Value × Value)), ps[i]? = some q → ∀ b, AllF q b → b < N := fun i q hq b hb => hlt b (Or.inr ⟨i, q, hq, hb⟩)
  refine ⟨by rw [List.length_set]; exact s1.1, by rw [List.length_set, List.length_set]; exact h.len, fun i n0 q hi hq => ?_, fun i q hq => ?_, fun i k q r hne hq hr => ?_⟩
  · rcases set_get hi with ⟨e1, e2⟩ | ⟨hne, hi⟩
    · rcases set_get hq with ⟨_, e3⟩ | ⟨e, _⟩
      · rw [e2, e3]
        exact hf.apart ho (fun b hb e => by have := hN b hb; omega)
      · exact absurd e1 e
    · rcases set_get hq with ⟨e, _⟩ | ⟨_, hq⟩
      · exact absurd e hne
      · exact (h.each i n0 q hi hq).apart ho (fun b hb e => h.two i q hq b hb (by rw [hv, e]))
  · rcases set_get hq with ⟨_, e3⟩ | ⟨_, hq⟩
    · intro b hb e
      rw [e3] at hb
      rw [hv] at e
      injection e with e
      have := hN b hb
      omega
    · exact h.two i q hq
  · rcases set_get hq with ⟨e1, e2⟩ | ⟨h3, hq2⟩
    · rcases set_get hr with ⟨e3, _⟩ | ⟨h4, hr2⟩
      · exact absurd (e1.trans e3.symm) hne
      · intro b hb hb2
        rw [e2] at hb
        have := hN b hb
        have := hpl k r hr2 b hb2
        omega
    · rcases set_get hr with ⟨e3, e4⟩ | ⟨h4, hr2⟩
      · intro b hb hb2
        rw [e4] at hb2
        have := hN b hb2
        have := hpl i q hq2 b hb
        omega
      · exact h.sep i k q r hne hq2 hr2

theorem allF_nil (b : Nat) : ¬ AllF (.slice none 0 0, []) b := by
  rintro (h | ⟨i, p, h, _⟩)
  · cases h
  · simp at h

/-- a row of empty forms -/
theorem ownFS_made {w : World} {base g n : Nat} (h : w.ownsRow base 24 1 (.slice (some ⟨g, 0, none⟩) n n) n (List.replicate n (.slice none 0 0))) : OwnFS w base (.slice (some ⟨g, 0, none⟩) n n) (List.replicate n (.slice none 0 0, [])) (List.replicate n []) := by
  have hm : ∀ (j : Nat) (p : Value × List (Value × Value)), (List.replicate n ((.slice none 0 0, []) : Value × List (Value × Value)))[j]? = some p → p = (.slice none 0 0, []) := fun j p hp => (List.mem_replicate.1 (List.mem_of_getElem? hp)).2
  refine ⟨by rw [List.length_replicate, List.map_replicate]; exact h, by simp, fun j f p hf hp => ?_, fun j p hp b hb => ?_, fun i j p q _ hp _ b hb => ?_⟩
  · rw [hm j p hp, (List.mem_replicate.1 (List.mem_of_getElem? hf)).2]
    exact OwnF.nil _ _
  · rw [hm j p hp] at hb
    exact absurd hb (allF_nil b)
  · rw [hm i p hp] at hb
    exact absurd hb (allF_nil b)
end

section
open Go.RowKit
set_option linter.unusedVariables false
set_option linter.unusedSimpArgs false

/-- how many numbers, nodes and forms -/
def tzFs (Fs : List (List Nz)) : Nat := Fs.length + (Fs.map szNs).sum

theorem szNs_take (f : List (List Nz)) (k : Nat) (h : k < f.length) : ((f.take (k + 1)).map szNs).sum = ((f.take k).map szNs).sum + szNs f[k] := by
  rw [List.take_succ_eq_append_getElem h, List.map_append, List.sum_append, List.map_singleton, List.sum_singleton]
theorem szNs_le (f : List (List Nz)) (k : Nat) : ((f.take k).map szNs).sum ≤ (f.map szNs).sum := by
  have h : (f.map szNs).sum = ((f.take k).map szNs).sum + ((f.drop k).map szNs).sum := by
    rw [← List.sum_append, ← List.map_append, List.take_append_drop]
  omega
theorem szNs_mem (f : List (List Nz)) (nd : List Nz) (h : nd ∈ f) : szNs nd ≤ (f.map szNs).sum := by
  induction f with
  | nil => cases h
  | cons x f ih =>
    rcases List.mem_cons.1 h with rfl | h
    · simp
    · have := ih h; simp; omega

set_option maxHeartbeats 1000000 in
theorem szFormS_calls (v : Value) (f : List (List Nz)) (w : World) (lo hi : Nat) (hh : hi ≤ w.heap.size) (m : Int) (h0 : 0 ≤ m) (h1 : m ≤ 1048576) (hv : FormsZ w lo hi v f) :
    Calls Try.prog 18 #[v, .int .i64 m] w fun e w' => e = .returned (.int .i64 (leftOf m (tzFs f))) ∧ Below w.heap.size w w' := by
  have HV := Lib.hid hv
  obtain ⟨ao, c, rfl, hl, _⟩ := hv
  by_cases hbig : (f.length : Int) ≤ m
  · have hnot : ¬ (m - (f.length : Int) < 0) := by omega
    go_enter Try.func18, Try.ntmps18
    go_wp2
    go_loopw [1, 5] (fun q i wr => ∃ (k : Nat) (r : Int), k ≤ f.length ∧ i = .int .i64 k ∧ q = .int .i64 r ∧ 0 ≤ r ∧ r ≤ 1048576 ∧ Hid (r = m - (f.length : Int) - (((f.take k).map szNs).sum : Int)) ∧ Hid (Below w.heap.size w wr)) (fun _ i _ => f.length - (intOf i).toNat)
    case atStart => exact ⟨0, _, Nat.zero_le _, rfl, rfl, by omega, by omega, Lib.hid (by simp), Lib.hid (Below.refl _ _)⟩
    case round =>
      obtain ⟨k, r, hk, rfl, rfl, hr0, hr1, hr, hb⟩ := hrel
      by_cases hlt : k < f.length
      · have hs : Hid (((f.take (k + 1)).map szNs).sum = ((f.take k).map szNs).sum + szNs f[k]) := Lib.hid (szNs_take f k hlt)
        have hle := szNs_le f (k + 1)
        have hw := HV.out.below hb.out hh
        obtain ⟨ao', c', e', _, hn⟩ := hw
        obtain ⟨b, off, v1, rfl, hlo, hhi, c1, i1⟩ := hn k f[k] (List.getElem?_eq_getElem hlt)
        injection e' with e1 e2 e3
        obtain rfl := e1
        clear hn
        have C := Lib.hid (szForm_calls v1 f[k] wr lo hi (by have := hb.out.size; omega) r hr0 hr1 i1)
        obtain ⟨av1, nv1, cv1, rfl⟩ : ∃ a n c, v1 = .slice a n c := by obtain ⟨a, c, e, _⟩ := i1; exact ⟨a, _, c, e⟩
        clear i1 e2 e3 hlo hhi
        generalize f[k] = nd at hs C
        have b0 : (0 : Int) ≤ k := by omega
        have b1 : (k : Int) < f.length := by omega
        by_cases hn2 : leftOf r (szNs nd) < 0
        · have HR : Hid (leftOf m (tzFs f) = -1) := Lib.hid (by
            have g1 := (leftOf_neg r (szNs nd) hr0).1 hn2
            have g2 := hr.out
            have g3 := hs.out
            unfold leftOf tzFs
            rw [if_neg (by omega)])
          clear hs hr hle
          generalize leftOf r (szNs nd) = r2 at C hn2
          go_wp2_with ((with_reducible refine C.out.mono ?_); rintro e w' ⟨rfl, hbl⟩)
          have hb2 : Hid (Below wr.heap.size wr w') := Lib.hid hbl
          clear hbl
          go_wp2
          go_ret
          exact ⟨ret_int HR.out.symm, hb.out.trans (hb2.out.mono hb.out.size)⟩
        · have g1 : (szNs nd : Int) ≤ r := by have := (leftOf_neg r (szNs nd) hr0); omega
          have R1 : Hid (leftOf r (szNs nd) = m - (f.length : Int) - (((f.take (k + 1)).map szNs).sum : Int)) := Lib.hid (by rw [leftOf_pos _ _ g1, hs.out]; have := hr.out; omega)
          have R2 : 0 ≤ leftOf r (szNs nd) := by omega
          have R3 : leftOf r (szNs nd) ≤ 1048576 := by rw [leftOf_pos _ _ g1]; omega
          clear hs hr hle g1
          generalize leftOf r (szNs nd) = r2 at C hn2 R1 R2 R3
          go_wp2_with ((with_reducible refine C.out.mono ?_); rintro e w' ⟨rfl, hbl⟩)
          have hb2 : Hid (Below w.heap.size w w') := Lib.hid (hb.out.trans (hbl.mono hb.out.size))
          clear hbl
          go_wp2
          go_roundw
          case rel => exact ⟨k + 1, _, by omega, by go_num, rfl, R2, R3, R1, hb2⟩
          case measure => simp [intOf]; omega
      · have HR : Hid (leftOf m (tzFs f) = r) := Lib.hid (by
          have h2 := hr.out
          rw [show k = f.length from by omega, List.take_length] at h2
          unfold leftOf tzFs
          rw [if_pos (by omega)]
          omega)
        clear hr
        go_wp2
        go_ret
        exact ⟨ret_int HR.out.symm, hb.out⟩
  · have HR : Hid (leftOf m (tzFs f) = -1) := Lib.hid (by unfold leftOf tzFs; rw [if_neg (by omega)])
    have hyes : m - (f.length : Int) < 0 := by omega
    go_enter Try.func18, Try.ntmps18
    go_wp2
    go_ret
    exact ⟨ret_int HR.out.symm, Below.refl _ _⟩


/-- the forms so far, and empty ones -/
def fsK (Fs : List (List Nz)) (k : Nat) : List (List Nz) := Fs.take k ++ List.replicate (Fs.length - k) []
theorem fsK_len (Fs : List (List Nz)) (k : Nat) (h : k ≤ Fs.length) : (fsK Fs k).length = Fs.length := by unfold fsK; simp; omega
theorem fsK_all (Fs : List (List Nz)) : fsK Fs Fs.length = Fs := by simp [fsK]
theorem fsK_set (Fs : List (List Nz)) (k : Nat) (f : List Nz) (h : Fs[k]? = some f) : (fsK Fs k).set k f = fsK Fs (k + 1) := by
  have hk := get_lt h
  unfold fsK
  have e1 : (Fs.take k).length = k := by simp; omega
  rw [List.set_append_right _ _ (by rw [e1]; exact Nat.le_refl _), e1, Nat.sub_self, show Fs.length - k = (Fs.length - (k + 1)) + 1 from by omega, List.replicate_succ, List.set_cons_zero, List.take_add_one, h, List.append_assoc]
  rfl

set_option maxRecDepth 100000 in
set_option maxHeartbeats 1000000 in
theorem toFormS_own (v : Value) (Fs : List (List Nz)) (w : World) (lo hi : Nat) (hh : hi ≤ w.heap.size) (hv : FormsZ w lo hi v Fs) (hl : tzFs Fs ≤ 1048576) :
    Calls Try.prog 20 #[v] w fun e w' => ∃ g ps, e = .returned (.slice (some ⟨g, 0, none⟩) Fs.length Fs.length) ∧ OwnFS w' w.heap.size (.slice (some ⟨g, 0, none⟩) Fs.length Fs.length) ps Fs ∧ Below w.heap.size w w' := by
  obtain ⟨i0, hi0, hz0, hz1, hz2⟩ := info_parts infoFormA
  have HV := Lib.hid hv
  have HL := Lib.hid hl
  have hfl : Fs.length ≤ 1048576 := by unfold tzFs at hl; omega
  obtain ⟨ao, c, rfl, _, _⟩ := hv
  clear hl
  go_enter Try.func20, Try.ntmps20
  go_wp2_with (at_make; refine wpList_make_full _ rfl _ _ 35 rfl w.heap.size 24 i0 (.agg #[.slice none 0 0]) 1 Try.underlying35 hi0 hz0 hz1 _ _ _ _ Fs.length rfl rfl rfl rfl (by rw [hz2]; omega) (by unfold maxLen; omega) (Nat.le_refl _) ?_; intro w1 hown hg)
  have HO : Hid (OwnFS w1 w.heap.size (.slice (some ⟨w.heap.size, 0, none⟩) Fs.length Fs.length) (List.replicate Fs.length (.slice none 0 0, [])) (fsK Fs 0)) := Lib.hid (by
    have e : (madeCells (Value.agg #[.slice none 0 0]).cells (Fs.length * 1)).toList = List.replicate Fs.length (.slice none 0 0) := by
      show (madeCells #[Value.slice none 0 0] (Fs.length * 1)).toList = _
      rw [Nat.mul_one, made_one]
    rw [e] at hown
    have h := ownFS_made hown
    simpa [fsK] using h)
  have HB : Hid (Below w.heap.size w w1) := Lib.hid ((Below.refl _ _).grown hg (Nat.le_refl _) (fun k hk => by cases hk))
  clear hown hg
  go_wp2
  go_loopw [4] (fun i wr => ∃ (k : Nat) (ps : List (Value × List (Value × Value))), k ≤ Fs.length ∧ i = .int .i64 k ∧ Hid (OwnFS wr w.heap.size (.slice (some ⟨w.heap.size, 0, none⟩) Fs.length Fs.length) ps (fsK Fs k)) ∧ Hid (Below w.heap.size w wr)) (fun i _ => Fs.length - (intOf i).toNat)
  case atStart => exact ⟨0, _, Nat.zero_le _, rfl, HO, HB⟩
  case round =>
    obtain ⟨k, ps, hk, rfl, ho, hb⟩ := hrel
    clear HO HB
    by_cases hlt : k < Fs.length
    · obtain ⟨f, hf⟩ := lt_get hlt
      have hsz : szNs f ≤ 1048576 := by
        have h1 := szNs_mem Fs f (List.mem_of_getElem? hf)
        have h2 := HL.out
        unfold tzFs at h2
        omega
      obtain ⟨ao1, c1, e1, _, hn⟩ := HV.out.below hb.out hh
      obtain ⟨b, off, v1, rfl, _, _, p1, i1⟩ := hn k f hf
      obtain ⟨q1, q2, q3⟩ := slice_inj e1
      subst q1 q3
      clear q2 hn e1
      have hbz := hb.out.size
      have C := Lib.hid (toForm_own v1 f wr lo hi (by omega) i1 hsz)
      have HST := Lib.hid (fsK_set Fs k f hf)
      have hpl := fsK_len Fs k hk
      obtain ⟨av1, nv1, cv1, rfl⟩ : ∃ a n c, v1 = .slice a n c := by obtain ⟨a, c, e, _⟩ := i1; exact ⟨a, _, c, e⟩
      have k0 : (0 : Int) ≤ k := by omega
      have k1 : (k : Int) < Fs.length := by omega
      have HPL := Lib.hid hpl
      clear i1 hsz hpl hf
      go_wp2_with fail
      refine C.out.mono ?_
      rintro e w2 ⟨gx, vs, rfl, hF, hb2⟩
      have hpl := HPL.out
      have ho2 := ho.out.below hb2
      obtain ⟨f0, hf0⟩ := lt_get (l := fsK Fs k) (i := k) (by rw [hpl]; exact hlt)
      obtain ⟨g', c', p, e1, hp, hc, _⟩ := ho2.form_at hf0
      have hg' : w.heap.size = g' := by
        injection e1 with e1
        injection e1 with e1
        injection e1
      subst hg'
      clear e1
      have hfz := World.ownsRow.frozenAt (show w2.ownsRow w.heap.size 24 1 (.slice (some ⟨w.heap.size, 0, none⟩) (fsK Fs k).length Fs.length) (fsK Fs k).length (ps.map Prod.fst) from by have h := ho2.row; rw [hpl] at h ⊢; exact h) k
      have hall : ∀ b, AllFS (.slice (some ⟨w.heap.size, 0, none⟩) Fs.length Fs.length) ps b → b < wr.heap.size := fun b hb => (ho.out.allS hb).2
      have hput := OwnFS.put (w := w2) (base := w.heap.size) (j := k) (g := w.heap.size) (c := Fs.length) (N := wr.heap.size) (ps := ps) (Fs := fsK Fs k) (f := f) (p := (.slice (some ⟨gx, 0, none⟩) f.length f.length, vs)) (by rw [hpl]; exact ho2) (by rw [hpl]; exact hlt) (hF.mono hb.out.size) (fun b hb => (hF.all (p := (.slice (some ⟨gx, 0, none⟩) f.length f.length, vs)) hb).1) (by rw [hpl]; exact hall)
      rw [HST.out, hpl] at hput
      have R1 := Lib.hid hput
      have R2 : Hid (Below w.heap.size w (w2.setCell ⟨w.heap.size, k, none⟩ (.slice (some ⟨gx, 0, none⟩) f.length f.length))) := Lib.hid ((hb.out.trans (hb2.mono hb.out.size)).setCell (Nat.le_refl _) _)
      clear hput hall ho2 hF hb2 ho hb hf0 hp hpl C p1
      go_wp2
      go_roundw
      case rel => exact ⟨k + 1, _, by omega, by go_num, R1, R2⟩
      case measure => first | (simp [intOf]; done) | (simp [intOf]; omega)
    · have hke : k = Fs.length := by omega
      subst hke
      have HF := Lib.hid (show OwnFS wr w.heap.size (.slice (some ⟨w.heap.size, 0, none⟩) Fs.length Fs.length) ps Fs from by have h := ho.out; rw [fsK_all] at h; exact h)
      clear ho
      go_wp2
      go_ret
      exact ⟨_, _, rfl, HF.out, hb.out⟩
end

section
open Go.RowKit
set_option linter.unusedVariables false
set_option linter.unusedSimpArgs false

def CopyFS (W : World) (v : Value) (Fs : List (List Nz)) : Prop := ∃ lo hi, hi ≤ W.heap.size ∧ FormsZ W lo hi v Fs
theorem CopyFS.below {W W' : World} {v : Value} {Fs : List (List Nz)} (h : CopyFS W v Fs) (hb : Below W.heap.size W W') : CopyFS W' v Fs := by
  obtain ⟨lo, hi, hh, h⟩ := h
  exact ⟨lo, hi, Nat.le_trans hh hb.size, h.below hb hh⟩
theorem OwnFS.copyFS {w : World} {base : Nat} {v : Value} {ps : List (Value × List (Value × Value))} {Fs : List (List Nz)} (h : OwnFS w base v ps Fs) : CopyFS w v Fs := ⟨_, _, Nat.le_refl _, h.formsZ⟩
theorem OwnF.copyO {w : World} {base : Nat} {v : Value} {vs : List (Value × Value)} {f : List Nz} (h : OwnF w base v vs f) : CopyOf w v f := ⟨_, _, Nat.le_refl _, h.nodesZ⟩

theorem szFormS_copy (v : Value) (Fs : List (List Nz)) (w : World) (m : Int) (h0 : 0 ≤ m) (h1 : m ≤ 1048576) (hv : CopyFS w v Fs) :
    Calls Try.prog 18 #[v, .int .i64 m] w fun e w' => e = .returned (.int .i64 (leftOf m (tzFs Fs))) ∧ Below w.heap.size w w' := by
  obtain ⟨lo, hi, hh, h⟩ := hv
  exact szFormS_calls v Fs w lo hi hh m h0 h1 h
theorem toFormS_copy (v : Value) (Fs : List (List Nz)) (w : World) (hv : CopyFS w v Fs) (hl : tzFs Fs ≤ 1048576) :
    Calls Try.prog 20 #[v] w fun e w' => ∃ g ps, e = .returned (.slice (some ⟨g, 0, none⟩) Fs.length Fs.length) ∧ OwnFS w' w.heap.size (.slice (some ⟨g, 0, none⟩) Fs.length Fs.length) ps Fs ∧ Below w.heap.size w w' := by
  obtain ⟨lo, hi, hh, h⟩ := hv
  exact toFormS_own v Fs w lo hi hh h hl
theorem eqFormS_copy (v v' : Value) (Fs : List (List Nz)) (w : World) (h : CopyFS w v Fs) (h' : CopyFS w v' Fs) :
    Calls Try.prog 22 #[v, v'] w fun e w' => e = .returned (.bool true) ∧ Below w.heap.size w w' := by
  obtain ⟨lo, hi, hh, h⟩ := h
  obtain ⟨lo', hi', hh', h'⟩ := h'
  exact eqFormS_same v v' Fs w lo hi lo' hi' hh hh' h h'

theorem szFS_le (Fs : List (List Nz)) : (szFS Fs : Int) ≤ (tzFs Fs : Nat) := by
  have : szFS Fs ≤ tzFs Fs := by
    unfold szFS tzFs
    induction Fs with
    | nil => simp
    | cons f Fs ih =>
      simp only [List.map_cons, List.sum_cons, List.length_cons]
      have : (f.map szN).sum ≤ szNs f := by unfold szNs; omega
      omega
  omega

/-- a form read far from what is written -/
theorem NodesZ.only {w w' : World} {lo hi : Nat} {v : Value} {f : List Nz} {F : Nat → Prop} (h : NodesZ w lo hi v f) (hh : hi ≤ w.heap.size) (ho : Only w w' F) (hn : ∀ b, lo ≤ b → b < hi → ¬ F b) : NodesZ w' lo hi v f := h.keep (fun b o h1 h2 => ho.cell (by omega) (hn b h1 h2))
end

section
open Go.RowKit
set_option linter.unusedVariables false
set_option linter.unusedSimpArgs false

theorem fits_szU {P : List Nd} (h : fitsN P = true) : ((P.map upN).map szN).sum ≤ 5760 := by
  obtain ⟨h1, h2, h3⟩ := (fitsN_iff P).1 h
  have h4 := sum_szN_le P (fun nd hnd => by
    have := h3 (upN nd) (List.mem_map.2 ⟨nd, hnd, rfl⟩)
    simpa [upN, upL] using this)
  simp only [List.length_map] at h2
  omega
theorem upV_sz (n s : Int) : ((upV n s).map szN).sum ≤ 5760 := by
  cases h : upOk n s with
  | false => rw [upV_no h]; simp
  | true =>
    obtain ⟨P, e1, e2⟩ := upV_fits h
    rw [e1]
    exact fits_szU e2

theorem UpsFormM_copy (n s : Int) (r : Bool) (g : List Nz) (hr : Hid (upV n s = g ∧ upOk n s = r)) (w : World) :
    Calls Try.prog 16 #[.int .i64 n, .int .i64 s] w fun e w' => ∃ a c, e = .returned (.tuple #[.agg #[.slice a g.length c], .bool r]) ∧ NodesZ w' w.heap.size w'.heap.size (.slice a g.length c) g ∧ Below w.heap.size w w' := upsFS_calls n s g r (Lib.hid hr.out.2) (Lib.hid hr.out.1) w
theorem UpsFormI_copy (n s : Int) (r : Bool) (g : List Nz) (hr : Hid (upV n s = g ∧ upOk n s = r)) (w : World) :
    Calls Try.prog 17 #[.int .i64 n, .int .i64 s] w fun e w' => ∃ a c vs, e = .returned (.tuple #[.agg #[.slice a g.length c], .bool r]) ∧ OwnF w' w.heap.size (.slice a g.length c) vs g ∧ Below w.heap.size w w' := upsI_calls n s g r (Lib.hid hr.out.2) (Lib.hid hr.out.1) w
theorem StarFormM_copy (n : Int) (r : Bool) (g : List Nz) (hr : Hid (upV 0 n = g ∧ upOk 0 n = r)) (w : World) :
    Calls Try.prog 11 #[.int .i64 n] w fun e w' => ∃ a c, e = .returned (.tuple #[.agg #[.slice a g.length c], .bool r]) ∧ NodesZ w' w.heap.size w'.heap.size (.slice a g.length c) g ∧ Below w.heap.size w w' := starFS_calls n g r (Lib.hid hr.out.2) (Lib.hid hr.out.1) w
theorem StarFormI_copy (n : Int) (r : Bool) (g : List Nz) (hr : Hid (upV 0 n = g ∧ upOk 0 n = r)) (w : World) :
    Calls Try.prog 12 #[.int .i64 n] w fun e w' => ∃ a c vs, e = .returned (.tuple #[.agg #[.slice a g.length c], .bool r]) ∧ OwnF w' w.heap.size (.slice a g.length c) vs g ∧ Below w.heap.size w w' := starFI_calls n g r (Lib.hid hr.out.2) (Lib.hid hr.out.1) w
end

end Go.Proofs.Ytgbpnegdoilfnaa
