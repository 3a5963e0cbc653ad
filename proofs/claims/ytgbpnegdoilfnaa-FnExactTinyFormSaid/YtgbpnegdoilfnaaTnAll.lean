/- Games stacked one on another: mathematics. -/
import Derived.Test.YtgbpnegdoilfnaaFmGood
import Derived.Test.YtgbpnegdoilfnaaFmAdd
import Derived.Test.YtgbpnegdoilfnaaFmFs
import Derived.Test.YtgbpnegdoilfnaaFmPartL
import Derived.Test.YtgbpnegdoilfnaaFmForm
import Derived.Test.YtgbpnegdoilfnaaFmFits
import Derived.Test.YtgbpnegdoilfnaaInOf
import Derived.Test.YtgbpnegdoilfnaaFmLaw
import Derived.Test.YtgbpnegdoilfnaaSmM
import Derived.Test.YtgbpnegdoilfnaaFmGoodI
import Derived.Deep.RegionHeld3
import Derived.Test.YtgbpnegdoilfnaaInForm
import Derived.Test.YtgbpnegdoilfnaaFmToOwn
import Derived.Test.YtgbpnegdoilfnaaNgI
import Derived.Test.YtgbpnegdoilfnaaNgL
namespace Go.Proofs.Ytgbpnegdoilfnaa
section
set_option linter.unusedVariables false
set_option linter.unusedSimpArgs false

def shD (n : Nat) (f : List Nd) : List Nd := f.map fun nd => (nd.1.map (· + n), nd.2.map (· + n))
theorem shD_len (n : Nat) (f : List Nd) : (shD n f).length = f.length := by simp [shD]
theorem shD_snoc (n : Nat) (f : List Nd) (nd : Nd) : shD n (f ++ [nd]) = shD n f ++ [(nd.1.map (· + n), nd.2.map (· + n))] := by simp [shD]
theorem shD_at {n k : Nat} {f : List Nd} {nd : Nd} (h : f[k]? = some nd) : (shD n f)[k]? = some (nd.1.map (· + n), nd.2.map (· + n)) := by unfold shD; rw [List.getElem?_map, h]; rfl
theorem shD_get {n k : Nat} {f : List Nd} {nd : Nd} (h : (shD n f)[k]? = some nd) : ∃ x, f[k]? = some x ∧ nd = (x.1.map (· + n), x.2.map (· + n)) := by
  unfold shD at h
  rw [List.getElem?_map] at h
  cases hx : f[k]? with
  | none => rw [hx] at h; cases h
  | some x => rw [hx] at h; simp only [Option.map_some, Option.some.injEq] at h; exact ⟨x, rfl, h.symm⟩

theorem at_lenP (B f : List Nd) : (addF B f).2.length = f.length := by
  induction f using snocInd with
  | nil => rfl
  | snoc f nd ih => rw [addF_snoc]; simp [ih]

theorem getD_right (A C : List Nat) (x : Nat) : (A ++ C).getD (x + A.length) 0 = C.getD x 0 := by
  rw [List.getD_eq_getElem?_getD, List.getD_eq_getElem?_getD, List.getElem?_append_right (by omega), Nat.add_sub_cancel]
theorem getD_left (A C : List Nat) (x : Nat) (h : x < A.length) : (A ++ C).getD x 0 = A.getD x 0 := by
  rw [List.getD_eq_getElem?_getD, List.getD_eq_getElem?_getD, List.getElem?_append_left h]

theorem addF_sh (P f : List Nd) : addF [] (P ++ shD P.length f) = ((addF (addF [] P).1 f).1, (addF [] P).2 ++ (addF (addF [] P).1 f).2) := by
  induction f using snocInd with
  | nil => simp [shD, addF]
  | snoc f nd ih =>
    rw [shD_snoc, ← List.append_assoc, addF_snoc, ih, addF_snoc]
    have hm : movd (fun x => ((addF [] P).2 ++ (addF (addF [] P).1 f).2).getD x 0) (nd.1.map (· + P.length), nd.2.map (· + P.length)) = movd (fun x => (addF (addF [] P).1 f).2.getD x 0) nd := by
      unfold movd
      simp only [List.map_map, Function.comp_def]
      have hl := at_lenP [] P
      have e : ∀ x, ((addF [] P).2 ++ (addF (addF [] P).1 f).2).getD (x + P.length) 0 = (addF (addF [] P).1 f).2.getD x 0 := fun x => by
        have := getD_right (addF [] P).2 (addF (addF [] P).1 f).2 x
        rwa [hl] at this
      simp only [e]
    dsimp only
    rw [hm, List.append_assoc]

/-- a game put on the pile, its top told -/
def stk (s : List Nd × List Nat) (f : List Nd) : List Nd × List Nat := (s.1 ++ shD s.1.length f, s.2 ++ [s.1.length + f.length - 1])
def stkL (P : List Nd) (fs : List (List Nd)) : List Nd × List Nat := fs.foldl stk (P, [])
theorem stkL_nil (P : List Nd) : stkL P [] = (P, []) := rfl
theorem stkL_snoc (P : List Nd) (fs : List (List Nd)) (f : List Nd) : stkL P (fs ++ [f]) = stk (stkL P fs) f := by simp [stkL, List.foldl_append]
theorem stkL_tops (P : List Nd) (fs : List (List Nd)) : (stkL P fs).2.length = fs.length := by
  induction fs using snocInd with
  | nil => rfl
  | snoc fs f ih => rw [stkL_snoc]; simp [stk, ih]
theorem stkL_pre (P : List Nd) (fs : List (List Nd)) : P <+: (stkL P fs).1 := by
  induction fs using snocInd with
  | nil => exact List.prefix_refl _
  | snoc fs f ih => rw [stkL_snoc]; exact ih.trans (List.prefix_append _ _)
theorem stkL_len (P : List Nd) (fs : List (List Nd)) (h : ∀ f ∈ fs, f.length ≤ 125) : (stkL P fs).1.length ≤ P.length + 125 * fs.length := by
  induction fs using snocInd with
  | nil => simp [stkL]
  | snoc fs f ih =>
    have h1 := ih (fun g hg => h g (by simp [hg]))
    have h2 := h f (by simp)
    rw [stkL_snoc]
    simp only [stk, List.length_append, shD_len, List.length_singleton]
    omega

/-- what is asked of the games -/
structure Fit (f : List Nd) : Prop where
  pos : 0 < f.length
  most : f.length ≤ 125
  under : Under f
  used : Used f
  small : ∀ nd ∈ f, nd.1.length ≤ 24 ∧ nd.2.length ≤ 24

theorem stkL_lt (P : List Nd) (fs : List (List Nd)) (h : ∀ f ∈ fs, 0 < f.length) : ∀ t ∈ (stkL P fs).2, t < (stkL P fs).1.length := by
  induction fs using snocInd with
  | nil => intro t ht; simp [stkL] at ht
  | snoc fs f ih =>
    have h1 := ih (fun g hg => h g (by simp [hg]))
    have h2 := h f (by simp)
    rw [stkL_snoc]
    intro t ht
    simp only [stk, List.length_append, shD_len, List.mem_append, List.mem_singleton] at ht ⊢
    rcases ht with ht | ht
    · have := h1 t ht; omega
    · omega

theorem under_sh {P f : List Nd} (hP : Under P) (hf : Under f) : Under (P ++ shD P.length f) := by
  intro k nd hk x hx
  rcases Nat.lt_or_ge k P.length with hlt | hge
  · rw [List.getElem?_append_left hlt] at hk
    exact hP k nd hk x hx
  · rw [List.getElem?_append_right hge] at hk
    obtain ⟨y, hy, rfl⟩ := shD_get hk
    have := hf _ y hy
    rcases hx with hx | hx
    · obtain ⟨z, hz, rfl⟩ := List.mem_map.1 hx
      have := this z (Or.inl hz); omega
    · obtain ⟨z, hz, rfl⟩ := List.mem_map.1 hx
      have := this z (Or.inr hz); omega

theorem stkL_under (P : List Nd) (fs : List (List Nd)) (hP : Under P) (h : ∀ f ∈ fs, Under f) : Under (stkL P fs).1 := by
  induction fs using snocInd with
  | nil => exact hP
  | snoc fs f ih =>
    rw [stkL_snoc]
    exact under_sh (ih (fun g hg => h g (by simp [hg]))) (h f (by simp))

theorem stkL_small (P : List Nd) (fs : List (List Nd)) (hP : ∀ nd ∈ P, nd.1.length ≤ 24 ∧ nd.2.length ≤ 24) (h : ∀ f ∈ fs, ∀ nd ∈ f, nd.1.length ≤ 24 ∧ nd.2.length ≤ 24) : ∀ nd ∈ (stkL P fs).1, nd.1.length ≤ 24 ∧ nd.2.length ≤ 24 := by
  induction fs using snocInd with
  | nil => exact hP
  | snoc fs f ih =>
    rw [stkL_snoc]
    intro nd hnd
    simp only [stk, List.mem_append] at hnd
    rcases hnd with hnd | hnd
    · exact ih (fun g hg => h g (by simp [hg])) nd hnd
    · unfold shD at hnd
      obtain ⟨x, hx, rfl⟩ := List.mem_map.1 hnd
      have := h f (by simp) x hx
      simpa using this

theorem Reached.pre {A C : List Nd} {r k : Nat} (hp : A <+: C) (h : Reached A r k) : Reached C r k := by
  induction h with
  | root => exact .root
  | opt _ hn hx ih => exact .opt ih (get_pre hp hn) hx
theorem Reached.trans {A : List Nd} {r k j : Nat} (h : Reached A r k) (g : Reached A k j) : Reached A r j := by
  induction g with
  | root => exact h
  | opt _ hn hx ih => exact .opt ih hn hx
theorem Reached.sh {P f : List Nd} {r k : Nat} (h : Reached f r k) : Reached (P ++ shD P.length f) (P.length + r) (P.length + k) := by
  induction h with
  | root => exact .root
  | @opt k' x nd _ hn hx ih =>
    refine .opt (k := P.length + k') (nd := (nd.1.map (· + P.length), nd.2.map (· + P.length))) ih ?_ ?_
    · rw [List.getElem?_append_right (by omega), Nat.add_sub_cancel_left]
      exact shD_at hn
    · rcases hx with hx | hx
      · exact Or.inl (List.mem_map.2 ⟨x, hx, by omega⟩)
      · exact Or.inr (List.mem_map.2 ⟨x, hx, by omega⟩)

theorem stkL_reach (P : List Nd) (fs : List (List Nd)) (h : ∀ f ∈ fs, Fit f) : ∀ k, k < (stkL P fs).1.length → k < P.length ∨ ∃ t ∈ (stkL P fs).2, Reached (stkL P fs).1 t k := by
  induction fs using snocInd with
  | nil => intro k hk; exact Or.inl hk
  | snoc fs f ih =>
    have h1 := ih (fun g hg => h g (by simp [hg]))
    have h2 := h f (by simp)
    rw [stkL_snoc]
    intro k hk
    simp only [stk, List.length_append, shD_len] at hk ⊢
    rcases Nat.lt_or_ge k (stkL P fs).1.length with hlt | hge
    · rcases h1 k hlt with h3 | ⟨t, ht, hr⟩
      · exact Or.inl h3
      · exact Or.inr ⟨t, List.mem_append_left _ ht, hr.pre (List.prefix_append _ _)⟩
    · right
      refine ⟨(stkL P fs).1.length + f.length - 1, by simp, ?_⟩
      have hr := used_reach h2.under h2.used (f.length - 1 - (k - (stkL P fs).1.length)) (by have := h2.pos; omega)
      have hr2 := hr.sh (P := (stkL P fs).1)
      have e1 : (stkL P fs).1.length + (f.length - 1) = (stkL P fs).1.length + f.length - 1 := by have := h2.pos; omega
      have e2 : (stkL P fs).1.length + (f.length - 1 - (f.length - 1 - (k - (stkL P fs).1.length))) = k := by omega
      rwa [e1, e2] at hr2

/-- games with a node on top -/
def mkD (ls rs : List (List Nd)) : List Nd := (stkL (stkL [] ls).1 rs).1 ++ [((stkL [] ls).2, (stkL (stkL [] ls).1 rs).2)]

theorem mkD_under {ls rs : List (List Nd)} (hl : ∀ f ∈ ls, Fit f) (hr : ∀ f ∈ rs, Fit f) : Under (mkD ls rs) := by
  have hu := stkL_under _ rs (stkL_under [] ls (fun k nd hk => by simp at hk) (fun f hf => (hl f hf).under)) (fun f hf => (hr f hf).under)
  have t1 := stkL_lt [] ls (fun f hf => (hl f hf).pos)
  have t2 := stkL_lt (stkL [] ls).1 rs (fun f hf => (hr f hf).pos)
  have hp := (stkL_pre (stkL [] ls).1 rs).length_le
  intro k nd hk x hx
  unfold mkD at hk
  rcases Nat.lt_or_ge k (stkL (stkL [] ls).1 rs).1.length with hlt | hge
  · rw [List.getElem?_append_left hlt] at hk
    exact hu k nd hk x hx
  · rw [List.getElem?_append_right hge] at hk
    have hk0 := get_lt hk
    simp at hk0
    rw [show k - (stkL (stkL [] ls).1 rs).1.length = 0 from by omega] at hk
    simp only [List.getElem?_cons_zero, Option.some.injEq] at hk
    subst hk
    rcases hx with hx | hx
    · have := t1 x hx; omega
    · have := t2 x hx; omega

theorem mkD_len (ls rs : List (List Nd)) : (mkD ls rs).length = (stkL (stkL [] ls).1 rs).1.length + 1 := by simp [mkD]
theorem mkD_most {ls rs : List (List Nd)} (hl : ∀ f ∈ ls, Fit f) (hr : ∀ f ∈ rs, Fit f) : (mkD ls rs).length ≤ 125 * ls.length + 125 * rs.length + 1 := by
  have h1 := stkL_len [] ls (fun f hf => (hl f hf).most)
  have h2 := stkL_len (stkL [] ls).1 rs (fun f hf => (hr f hf).most)
  rw [mkD_len]
  simp only [List.length_nil] at h1
  omega

theorem mkD_reach {ls rs : List (List Nd)} (hl : ∀ f ∈ ls, Fit f) (hr : ∀ f ∈ rs, Fit f) (k : Nat) (hk : k < (mkD ls rs).length) : Reached (mkD ls rs) ((mkD ls rs).length - 1) k := by
  have hlast : (mkD ls rs)[(mkD ls rs).length - 1]? = some ((stkL [] ls).2, (stkL (stkL [] ls).1 rs).2) := by
    rw [mkD_len]
    unfold mkD
    simp
  have hpre : (stkL (stkL [] ls).1 rs).1 <+: mkD ls rs := List.prefix_append _ _
  have hpre1 : (stkL [] ls).1 <+: mkD ls rs := (stkL_pre _ _).trans hpre
  have hk2 := hk
  rw [mkD_len] at hk2
  by_cases e : k = (mkD ls rs).length - 1
  · rw [e]; exact .root
  · have hk3 : k < (stkL (stkL [] ls).1 rs).1.length := by rw [mkD_len] at e; omega
    rcases stkL_reach (stkL [] ls).1 rs hr k hk3 with h3 | ⟨t, ht, h4⟩
    · rcases stkL_reach [] ls hl k h3 with h5 | ⟨t, ht, h4⟩
      · simp at h5
      · exact (Reached.opt .root hlast (Or.inl ht)).trans (h4.pre hpre1)
    · exact (Reached.opt .root hlast (Or.inr ht)).trans (h4.pre hpre)

/-- where the tops are in a book -/
def atT (Q : List Nd) (T : List Nat) : List Nat := T.map fun t => (addF [] Q).2.getD t 0

theorem atT_step (Q : List Nd) (T : List Nat) (f : List Nd) (h0 : 0 < f.length) (hT : ∀ t ∈ T, t < Q.length) :
    atT (Q ++ shD Q.length f) (T ++ [Q.length + f.length - 1]) = atT Q T ++ [(addF (addF [] Q).1 f).2.getD (f.length - 1) 0] := by
  unfold atT
  have hl := at_lenP [] Q
  rw [addF_sh, List.map_append]
  congr 1
  · refine List.map_congr_left fun t ht => ?_
    exact getD_left _ _ _ (by rw [hl]; exact hT t ht)
  · simp only [List.map_cons, List.map_nil]
    have := getD_right (addF [] Q).2 (addF (addF [] Q).1 f).2 (f.length - 1)
    rw [hl] at this
    rw [← this]
    congr 2
    omega

theorem atT_keep (Q : List Nd) (T : List Nat) (f : List Nd) (hT : ∀ t ∈ T, t < Q.length) : atT (Q ++ shD Q.length f) T = atT Q T := by
  unfold atT
  have hl := at_lenP [] Q
  rw [addF_sh]
  exact List.map_congr_left fun t ht => getD_left _ _ _ (by rw [hl]; exact hT t ht)
end

section
set_option linter.unusedVariables false
set_option linter.unusedSimpArgs false
open Go.RowKit

set_option maxRecDepth 100000 in
set_option maxHeartbeats 8000000 in
theorem add_callsX (X : Nat → Prop) (base B : Nat) (ns : List Nd) (vn0 vb0 : Value) (vs0 : List (Value × Value)) (vf : Value) (f : List Nd) (w : World) (lo hi : Nat) (hh : hi ≤ base)
    (hX : ∀ g, X g → g < w.heap.size) (hFX : ∀ g, Foot B vn0 vb0 g → ¬ X g) (h : Bk base w B ns (bornsOf ns) vn0 vb0 vs0 X) (hbk : Book ns) (hv : NodesZ w lo hi vf (f.map upN)) (hf : Under f) (hn : ns.length + f.length ≤ 90000) (hl : ∀ nd ∈ f, nd.1.length ≤ 90000 ∧ nd.2.length ≤ 90000) :
    Calls Try.prog 98 #[.pointer (some ⟨B, 0, none⟩), .agg #[vf]] w fun e w' => ∃ g c vn vb vs, e = .returned (.slice (some ⟨g, 0, none⟩) f.length c) ∧ IntsZ w' w.heap.size w'.heap.size (.slice (some ⟨g, 0, none⟩) f.length c) (upL (addF ns f).2) ∧
      Bk base w' B (addF ns f).1 (bornsOf (addF ns f).1) vn vb vs X ∧ Only w w' (Foot B vn0 vb0) ∧ ∀ x, x < w.heap.size → Foot B vn vb x → Foot B vn0 vb0 x := by
  have HK0 := Lib.hid h
  have HV := Lib.hid hv
  have HF := Lib.hid hf
  have HL := Lib.hid hl
  have HAD := Lib.hid fun k => addF_added ns hbk (f.take k) (under_take hf k)
  have HFL := Lib.hid h.lt
  have HXX := Lib.hid hX
  have HFX := Lib.hid hFX
  have hbase : base ≤ w.heap.size := by have := h.lt B (Or.inl rfl); omega
  obtain ⟨aof, cof, rfl, _, _⟩ := hv
  rw [List.length_map] at HV ⊢
  clear hl hf hbk h hX hFX
  have HB0 : Hid (Below w.heap.size w ((w.alloc (.cells #[.slice aof f.length cof] 24)).alloc (.cells #[] 3))) := Lib.hid (((Below.refl _ _).alloc (Nat.le_refl _) _).alloc (by simp) _)
  have HO0 : Hid (((w.alloc (.cells #[.slice aof f.length cof] 24)).alloc (.cells #[] 3)).ownsRow base 3 1 (.slice (some ⟨w.heap.size + 1, 0, none⟩) 0 0) 0 []) := Lib.hid (by
    have h := World.ownsRow_lit (base := base) (e := 3) (size := 1) (w.alloc (.cells #[.slice aof f.length cof] 24)) #[] 0 (by simp; omega) (by unfold maxLen; omega) rfl
    rw [show (w.alloc (.cells #[.slice aof f.length cof] 24)).heap.size = w.heap.size + 1 from by simp] at h
    exact h)
  go_enter Try.func98, Try.ntmps98
  go_wp2
  go_loopw [5, 6] (fun q i wr => ∃ (k ga ca : Nat) (vn vb : Value) (vs : List (Value × Value)), k ≤ f.length ∧ i = .int .i64 k ∧ q = .slice (some ⟨ga, 0, none⟩) k ca ∧ Hid (Bk base wr B (addF ns (f.take k)).1 (bornsOf (addF ns (f.take k)).1) vn vb vs (fun g => g = ga ∨ X g)) ∧
      Hid (wr.ownsRow base 3 1 (.slice (some ⟨ga, 0, none⟩) k ca) k ((addF ns (f.take k)).2.map iv)) ∧ w.heap.size < ga ∧ Hid (¬ Foot B vn vb ga) ∧ Hid (∀ g, g < w.heap.size + 1 → Foot B vn vb g → Foot B vn0 vb0 g) ∧ Hid (Only w wr (Foot B vn0 vb0)) ∧ wr.cell? ⟨w.heap.size, 0, none⟩ = some (.slice aof f.length cof)) (fun _ i _ => f.length - (intOf i).toNat)
  case atStart =>
    refine ⟨0, w.heap.size + 1, 0, vn0, vb0, vs0, Nat.zero_le _, rfl, rfl, Lib.hid ?_, Lib.hid ?_, by omega, Lib.hid (fun hF => by have := (HFL.out _ hF).2; omega), Lib.hid (fun _ _ hF => hF), Lib.hid (Only.of_below HB0.out), by go_simp⟩
    · have h1 : Bk base w B ns (bornsOf ns) vn0 vb0 vs0 (fun g => g = w.heap.size + 1 ∨ X g) := HK0.out.reX (fun g hg e => e.resolve_left (by omega))
      simpa [addF] using h1.below HB0.out
    · simpa [addF] using HO0.out
  case round =>
    obtain ⟨k, ga, ca, vn, vb, vs, hk, rfl, rfl, hK, hown, hga, hnf, hft, ho, hbox⟩ := hrel
    by_cases hlt : k < f.length
    · obtain ⟨nd, hx⟩ := lt_get hlt
      have hadd := addF_take ns f k nd hx
      have had := HAD.out k
      have hlen := addF_len ns (f.take k)
      obtain ⟨ao1, c1, e1, _, hnn⟩ := (HV.out.below (ho.out.below hbase (fun g hg => (HFL.out g hg).1)) hh)
      obtain ⟨b, off, v1, v2, hao, _, hbhi, p1, p2, i1, i2⟩ := hnn k (upN nd) (by rw [List.getElem?_map, hx]; rfl)
      obtain ⟨q1, q2, q3⟩ := slice_inj e1
      rw [hao] at q1
      subst q1
      clear q2 q3 e1 hnn
      obtain ⟨hAl, hAI⟩ := own_intsA hown.out (by omega)
      have hnd := HL.out nd (List.mem_of_getElem? hx)
      have hux := HF.out k nd hx
      have hgaw : ga < wr.heap.size := (World.ownsRow.lt hown.out _ rfl).2
      have hos := ho.out.size
      generalize hC : (addF ns (f.take k)).1 = C at hK had hlen hadd
      generalize hA : (addF ns (f.take k)).2 = A at hown had hlen hadd hAl hAI
      have hAC : ∀ x, x < k → A.getD x 0 < C.length := fun x hxk => by
        obtain ⟨n0, hn0⟩ := lt_get (l := f.take k) (i := x) (by simp; omega)
        exact get_lt (had.node x n0 hn0)
      have hCu := had.book.struct.under
      have hCl : C.length ≤ 90000 := by have := hlen.2; simp at this; omega
      have hwr : base ≤ wr.heap.size := by omega
      have C1 := Lib.hid fun (W : World) (hW : Below wr.heap.size wr W) => l3At_calls (.slice (some ⟨ga, 0, none⟩) k ca) v1 A nd.1 W ga (ga + 1) lo hi (by have := hW.size; omega) (by have := hW.size; omega) (hAI.below hW (by omega)) (i1.below hW (by omega)) (by omega) (fun x hx => by rw [hAl]; exact hux x (Or.inl hx))
      have C2 := Lib.hid fun (W : World) (hW : Below wr.heap.size wr W) => l3At_calls (.slice (some ⟨ga, 0, none⟩) k ca) v2 A nd.2 W ga (ga + 1) lo hi (by have := hW.size; omega) (by have := hW.size; omega) (hAI.below hW (by omega)) (i2.below hW (by omega)) (by omega) (fun x hx => by rw [hAl]; exact hux x (Or.inr hx))
      have C3 := Lib.hid fun (W : World) (hW : Below wr.heap.size wr W) (vl vr : Value) (l1 h1 l2 h2 : Nat) (hh1 : h1 ≤ W.heap.size) (hh2 : h2 ≤ W.heap.size) (hvl : IntsZ W l1 h1 vl (upL (nd.1.map (fun x => A.getD x 0)))) (hvr : IntsZ W l2 h2 vr (upL (nd.2.map (fun x => A.getD x 0)))) =>
        put_calls base B C vn vb vs (fun g => g = ga ∨ X g) vl vr (nd.1.map (fun x => A.getD x 0)) (nd.2.map (fun x => A.getD x 0)) W l1 h1 l2 h2 hh1 hh2 (hK.out.below hW) (fun g e => by have := hW.size; rcases e with e | e <;> first | omega | (have := HXX.out g e; omega)) hCu hvl hvr
          (fun y hy => by obtain ⟨x, hx, rfl⟩ := List.mem_map.1 hy; exact hAC x (hux x (Or.inl hx))) (fun y hy => by obtain ⟨x, hx, rfl⟩ := List.mem_map.1 hy; exact hAC x (hux x (Or.inr hx))) (by omega) (by simp; omega) (by simp; omega)
      generalize seat C (sortd (nd.1.map (fun x => A.getD x 0)), sortd (nd.2.map (fun x => A.getD x 0))) = su at C3 hadd
      generalize bookPut C (sortd (nd.1.map (fun x => A.getD x 0)), sortd (nd.2.map (fun x => A.getD x 0))) = Cp at C3 hadd
      have HOW := Lib.hid fun (W : World) (hW : Below wr.heap.size wr W) => own_only hown.out (Only.of_below (F := fun _ => False) hW) (fun _ _ => id)
      have HFK := Lib.hid hK.out.lt
      have HADD := Lib.hid hadd
      have hS0 : AddS w.heap.size b (off + k * 2) (.slice (some ⟨b, off, none⟩) f.length cof) v1 v2 wr.drew := ⟨hbox, p1, p2⟩
      have HBX := Lib.hid hbox
      have nb0 : Hid (¬ Foot B vn vb w.heap.size) := Lib.hid (fun hF => by have := hft.out _ (by omega) hF; have := (HFL.out _ this).2; omega)
      have nb1 : Hid (¬ Foot B vn vb b) := Lib.hid (fun hF => by have := (HFK.out _ hF).1; omega)
      have hbd : Hid (Below wr.heap.size wr wr.drew) := Lib.hid (below_drewN (Below.refl _ _) 1)
      clear hAI i1 i2 hadd had hlen p1 p2 hAC
      have b0 : (0 : Int) ≤ k := by omega
      have b1 : (k : Int) < f.length := by omega
      go_wp2
      go_region_held3 (fun w' : World => w'.cell? ⟨w.heap.size, 0, none⟩ = some (.slice (some ⟨b, off, none⟩) f.length cof) ∧ w'.cell? ⟨b, off + k * 2, none⟩ = some v1 ∧ w'.cell? ⟨b, off + k * 2 + 1, none⟩ = some v2) (first | exact hS0 | (go_split_ands; exact ⟨‹_›, ‹_›, ‹_›⟩) | (go_split_ands; exact addS_only HAPP.out (by omega) (by omega) ⟨‹_›, ‹_›, ‹_›⟩) | (go_split_ands; exact addS_below ((Below.refl _ _).alloc (Nat.le_refl _) _) ⟨‹_›, ‹_›, ‹_›⟩) | (go_split_ands; exact addS_only ho6 nb0.out nb1.out ⟨‹_›, ‹_›, ‹_›⟩) | (go_split_ands; exact addS_below hb5 ⟨‹_›, ‹_›, ‹_›⟩) | (go_split_ands; exact addS_below hb4 ⟨‹_›, ‹_›, ‹_›⟩)) (first | (go_at_call 87; (with_reducible refine (C3.out w5 HB5 _ _ _ _ _ _ (Nat.le_refl _) (Nat.le_refl _) (hi1.below hb5 (Nat.le_refl _) |>.wide (Nat.le_refl _) hb5.size) hi2).mono ?_); rintro e w6 ⟨rfl, vn', vb', vs', hK6, ho6, hf6⟩) | (go_at_call 99; (with_reducible refine (C1.out _ hbd.out).mono ?_); rintro e w4 ⟨g1, c1, rfl, hi1, hg1, hg1', hb4⟩; have HB4 : Below wr.heap.size wr w4 := Below.trans hbd.out hb4) | (go_at_call 99; (with_reducible refine (C2.out w4 HB4).mono ?_); rintro e w5 ⟨g2, c2, rfl, hi2, hg2, hg2', hb5⟩; have HB5 : Below wr.heap.size wr w5 := HB4.trans (hb5.mono HB4.size); have HO6 := HOW.out w5 HB5) | (refine step_app_at rfl _ _ rfl (World.ownsRow.alloc (own_only HO6 ho6 (fun g e => by injection e with e; subst e; exact hnf.out)) _) rfl (B := w6.heap.size) (u := su) (by go_simp) rfl (by omega) (by simp; have := ho6.size; have := HB5.size; omega) ?_; intro v7 w7 hown7 hgrow7 hat7; have HAPP : Hid (Only _ w7 (fun g => g = ga)) := Lib.hid (Only.of_grown hgrow7 (fun g e => by injection e with e; exact e.symm))))
      all_goals
        obtain ⟨g7, c7, rfl, _, hg7h⟩ := hown7.form (by omega)
        have HK7a := hK6.below ((Below.refl w6.heap.size w6).alloc (Nat.le_refl _) (.cells #[.int .i64 (su : Int)] 3))
        have hz6 : (w6.alloc (.cells #[.int .i64 (su : Int)] 3)).heap.size = w6.heap.size + 1 := by simp
        have hz5 := HB5.size
        have hs6 := ho6.size
        have hgaF : ¬ Foot B vn' vb' ga := fun hF => hnf.out (hf6 ga (by omega) hF)
        have hat : g7 = ga ∨ g7 = w6.heap.size + 1 := by
          rcases hat7 with e | e
          · left; injection e
          · right; rw [hz6] at e; injection e
        have HFX7 : ∀ g, Foot B vn' vb' g → ¬ X g := fun g hF hx => by
          have h1 := HXX.out g hx
          exact HFX.out g (hft.out g (by omega) (hf6 g (by omega) hF)) hx
        have HK7b := (HK7a.reX (Y := fun g => (g = ga ∨ g = w6.heap.size + 1) ∨ X g) (fun g hg e => by
          rcases e with (e | e) | e
          · exact Or.inl e
          · rw [hz6] at hg; omega
          · exact Or.inr e)).only (HAPP.out.mono (fun i _ e => Or.inl (Or.inl e))) (fun g hF e => by
          rcases e with (e | e) | e
          · exact hgaF (e ▸ hF)
          · have := (HK7a.lt g hF).2; rw [hz6] at this; omega
          · exact HFX7 g hF e)
        have HK7 : Hid (Bk base w7 B Cp (bornsOf Cp) vn' vb' vs' (fun g => g = g7 ∨ X g)) := Lib.hid (HK7b.reX (fun g _ e => e.imp (fun e => by subst e; exact hat) id))
        have HNF7 : Hid (¬ Foot B vn' vb' g7) := Lib.hid (fun hF => by
          rcases hat with e | e
          · exact hgaF (e ▸ hF)
          · have := (HK7a.lt g7 hF).2; rw [hz6] at this; omega)
        have OT : Only wr w7 (fun g => Foot B vn vb g ∨ g = ga) :=
          (((Only.of_below (F := fun g => Foot B vn vb g ∨ g = ga) HB5).trans ho6 (fun i _ h => Or.inl h)).trans (Only.of_below (F := fun g => Foot B vn vb g ∨ g = ga) ((Below.refl w6.heap.size w6).alloc (Nat.le_refl _) (.cells #[.int .i64 (su : Int)] 3))) (fun i _ h => h)).trans HAPP.out (fun i _ h => Or.inr h)
        have HO7 : Hid (Only w w7 (Foot B vn0 vb0)) := Lib.hid (ho.out.trans OT (fun i hi h => by
          rcases h with h | h
          · exact hft.out i (by omega) h
          · omega))
        have HFT7 : Hid (∀ g, g < w.heap.size + 1 → Foot B vn' vb' g → Foot B vn0 vb0 g) := Lib.hid (fun g hg hF => hft.out g hg (hf6 g (by omega) hF))
        have HBX7 : Hid (w7.cell? ⟨w.heap.size, 0, none⟩ = some (.slice (some ⟨b, off, none⟩) f.length cof)) := Lib.hid ((OT.cell (block_of_cell HBX.out) (fun h => by
          rcases h with h | h
          · exact nb0.out h
          · omega)).trans HBX.out)
        have HOWN : Hid (w7.ownsRow base 3 1 (.slice (some ⟨g7, 0, none⟩) (k + 1) c7) (k + 1) ((A ++ [su]).map iv)) := Lib.hid (by rw [List.map_append]; exact hown7)
        have hg7 : w.heap.size < g7 := by omega
        clear hown7 hgrow7 hat7 HAPP OT HK7a HK7b hz6 hK6 ho6 hf6 hat hgaF HFX7
        go_wp2
        go_roundw
        case rel => exact ⟨k + 1, g7, c7, vn', vb', vs', by omega, by go_num, rfl, by rw [HADD.out]; exact HK7, by rw [HADD.out]; exact HOWN, hg7, HNF7, HFT7, HO7, HBX7.out⟩
        case measure => simp [intOf]; omega
    · have hke : f.take k = f := List.take_of_length_le (by omega)
      have hkl : k = f.length := by omega
      subst hkl
      rw [hke] at hK hown
      obtain ⟨_, hAI⟩ := own_intsA hown.out (by omega)
      have hgaw : ga < wr.heap.size := (World.ownsRow.lt hown.out _ rfl).2
      have HI := Lib.hid (hAI.wide (lo' := w.heap.size) (hi' := wr.heap.size) (by omega) (by omega))
      have HKE := Lib.hid (hK.out.reX (Y := X) (fun _ _ h => Or.inr h))
      have HFE : Hid (∀ x, x < w.heap.size → Foot B vn vb x → Foot B vn0 vb0 x) := Lib.hid (fun x hx => hft.out x (by omega))
      clear hAI hK hown hke
      go_wp2
      go_ret
      exact ⟨ga, ca, vn, vb, vs, rfl, HI.out, HKE.out, ho.out, HFE.out⟩

set_option maxHeartbeats 1000000 in
theorem root_callsX (X : Nat → Prop) (base B : Nat) (ns : List Nd) (vn0 vb0 : Value) (vs0 : List (Value × Value)) (vf : Value) (f : List Nd) (w : World) (lo hi : Nat) (hh : hi ≤ base)
    (hX : ∀ g, X g → g < w.heap.size) (hFX : ∀ g, Foot B vn0 vb0 g → ¬ X g) (h : Bk base w B ns (bornsOf ns) vn0 vb0 vs0 X) (hbk : Book ns) (hv : NodesZ w lo hi vf (f.map upN)) (hf : Under f) (h0 : 0 < f.length) (hn : ns.length + f.length ≤ 90000) (hl : ∀ nd ∈ f, nd.1.length ≤ 90000 ∧ nd.2.length ≤ 90000) :
    Calls Try.prog 86 #[.pointer (some ⟨B, 0, none⟩), .agg #[vf]] w fun e w' => e = .returned (.int .i64 ((addF ns f).2.getD (f.length - 1) 0 : Nat)) ∧ ∃ vn vb vs,
      Bk base w' B (addF ns f).1 (bornsOf (addF ns f).1) vn vb vs X ∧ Only w w' (Foot B vn0 vb0) ∧ ∀ x, x < w.heap.size → Foot B vn vb x → Foot B vn0 vb0 x := by
  have hbase : base ≤ w.heap.size := by have := h.lt B (Or.inl rfl); omega
  have C := Lib.hid fun (W : World) (hW : Below w.heap.size w W) => add_callsX X base B ns vn0 vb0 vs0 vf f W lo hi hh (fun g hg => Nat.lt_of_lt_of_le (hX g hg) hW.size) hFX (h.below hW) hbk (hv.below hW (by omega)) hf hn hl
  have hfl := (addF_len ns f).1
  obtain ⟨y, hy⟩ := lt_get (l := (addF ns f).2) (i := f.length - 1) (by omega)
  have HY : Hid ((addF ns f).2.getD (f.length - 1) 0 = y) := Lib.hid (by rw [List.getD_eq_getElem?_getD, hy]; rfl)
  have HYY := Lib.hid hy
  have hB1 : Hid (Below w.heap.size w (w.alloc (.cells #[vf] 24))) := Lib.hid ((Below.refl _ _).alloc (Nat.le_refl _) _)
  have hw1 : IntKind.i64.wrap ((f.length : Int) - 1) = (f.length : Int) - 1 := IntWalk.i64_in _ (by omega)
  have hw2 : (0 : Int) ≤ (f.length : Int) - 1 := by omega
  have hw3 : (f.length : Int) - 1 < f.length := by omega
  have hw4 : ((f.length : Int) - 1).toNat = f.length - 1 := by omega
  clear h hv hbk hf hl hfl hy hX hFX
  go_enter Try.func86, Try.ntmps86
  go_wp2_with fail
  refine (C.out _ hB1.out).mono ?_
  rintro e w4 ⟨g, c, vn, vb, vs, rfl, hi4, hK4, ho4, hf4⟩
  have hsz4 := ho4.size
  obtain ⟨ao, c', e', _, hcc⟩ := hi4
  obtain ⟨bb, oo, hao, _, _, hcell⟩ := hcc (f.length - 1) (y : Int) (by unfold upL; rw [List.getElem?_map, HYY.out]; rfl)
  obtain ⟨q1, q2, q3⟩ := slice_inj e'
  rw [← q1] at hao
  injection hao with hao
  injection hao with h1 h2
  subst h1 h2
  rw [Nat.zero_add] at hcell
  have HK := Lib.hid hK4
  have HO : Hid (Only w w4 (Foot B vn0 vb0)) := Lib.hid ((Only.of_below (F := Foot B vn0 vb0) hB1.out).trans ho4 (fun _ _ h => h))
  have HFF : Hid (∀ x, x < w.heap.size → Foot B vn vb x → Foot B vn0 vb0 x) := Lib.hid (fun x hx => hf4 x (by simp; omega))
  clear hcc q1 q2 q3 e' hK4 ho4 hf4 hsz4
  go_wp2
  go_ret
  exact ⟨ret_int (by rw [HY.out]), vn, vb, vs, HK.out, HO.out, HFF.out⟩
end

section
open Go.RowKit
set_option linter.unusedVariables false
set_option linter.unusedSimpArgs false

structure MkS (base : Nat) (w : World) (Q : List Nd) (TL TR : List Nat) (gl cl gr cr : Nat) (vn vb : Value) (vs : List (Value × Value)) : Prop where
  bk : Bk base w base (addF [] Q).1 (bornsOf (addF [] Q).1) vn vb vs (fun g => g = gl ∨ g = gr)
  ol : w.ownsRow base 3 1 (.slice (some ⟨gl, 0, none⟩) TL.length cl) TL.length ((atT Q TL).map iv)
  or_ : w.ownsRow base 3 1 (.slice (some ⟨gr, 0, none⟩) TR.length cr) TR.length ((atT Q TR).map iv)
  ll : base < gl
  lr : base < gr
  ne : gl ≠ gr
  fl : ¬ Foot base vn vb gl
  fr : ¬ Foot base vn vb gr
  tl : ∀ t ∈ TL, t < Q.length
  tr : ∀ t ∈ TR, t < Q.length
  und : Under Q

theorem MkS.swap {base : Nat} {w : World} {Q : List Nd} {TL TR : List Nat} {gl cl gr cr : Nat} {vn vb : Value} {vs : List (Value × Value)} (h : MkS base w Q TL TR gl cl gr cr vn vb vs) : MkS base w Q TR TL gr cr gl cl vn vb vs :=
  ⟨h.bk.reX (fun _ _ e => e.symm), h.or_, h.ol, h.lr, h.ll, h.ne.symm, h.fr, h.fl, h.tr, h.tl, h.und⟩

theorem MkS.size {base : Nat} {w : World} {Q : List Nd} {TL TR : List Nat} {gl cl gr cr : Nat} {vn vb : Value} {vs : List (Value × Value)} (h : MkS base w Q TL TR gl cl gr cr vn vb vs) : gl < w.heap.size ∧ gr < w.heap.size ∧ base < w.heap.size := by
  have h1 := (World.ownsRow.lt h.ol gl rfl).2
  have h2 := (World.ownsRow.lt h.or_ gr rfl).2
  exact ⟨h1, h2, by have := h.ll; omega⟩

theorem MkS.below {base : Nat} {w w' : World} {Q : List Nd} {TL TR : List Nat} {gl cl gr cr : Nat} {vn vb : Value} {vs : List (Value × Value)} (h : MkS base w Q TL TR gl cl gr cr vn vb vs) (hb : Below w.heap.size w w') : MkS base w' Q TL TR gl cl gr cr vn vb vs :=
  ⟨h.bk.below hb, own_only h.ol (Only.of_below (F := fun _ => False) hb) (fun _ _ => id), own_only h.or_ (Only.of_below (F := fun _ => False) hb) (fun _ _ => id), h.ll, h.lr, h.ne, h.fl, h.fr, h.tl, h.tr, h.und⟩

theorem bk_nilM (w : World) : Bk w.heap.size (w.alloc (.cells #[.slice none 0 0, .slice none 0 0] 90)) w.heap.size [] (bornsOf []) (.slice none 0 0) (.slice none 0 0) [] (fun _ => False) :=
  ⟨by go_simp, by go_simp, by go_simp, by go_simp, Nat.le_refl _, World.ownsRow_nil _ _ _ _, rfl, fun j nd p hj => by simp at hj, World.ownsRow_nil _ _ _ _, by simp [Value.ownBlock], by simp [Value.ownBlock], fun g hg => by simp [Value.ownBlock] at hg⟩

theorem MkS.start (w : World) : MkS w.heap.size (((w.alloc (.cells #[.slice none 0 0, .slice none 0 0] 90)).alloc (.cells #[] 3)).alloc (.cells #[] 3)) [] [] [] (w.heap.size + 1) 0 (w.heap.size + 2) 0 (.slice none 0 0) (.slice none 0 0) [] := by
  have hz : (w.alloc (.cells #[.slice none 0 0, .slice none 0 0] 90)).heap.size = w.heap.size + 1 := by simp
  have hz2 : ((w.alloc (.cells #[.slice none 0 0, .slice none 0 0] 90)).alloc (.cells #[] 3)).heap.size = w.heap.size + 2 := by simp
  have hb : Below (w.alloc (.cells #[.slice none 0 0, .slice none 0 0] 90)).heap.size (w.alloc (.cells #[.slice none 0 0, .slice none 0 0] 90)) (((w.alloc (.cells #[.slice none 0 0, .slice none 0 0] 90)).alloc (.cells #[] 3)).alloc (.cells #[] 3)) := ((Below.refl _ _).alloc (Nat.le_refl _) _).alloc (by simp) _
  have nf : ∀ g, g ≠ w.heap.size → ¬ Foot w.heap.size (.slice none 0 0) (.slice none 0 0) g := fun g hg h => by
    rcases h with h | h | h
    · exact hg h
    · simp [Value.ownBlock] at h
    · simp [Value.ownBlock] at h
  refine ⟨((bk_nilM w).reX (Y := fun g => g = w.heap.size + 1 ∨ g = w.heap.size + 2) (fun g hg e => by rw [hz] at hg; omega)).below hb, ?_, ?_, by omega, by omega, by omega, nf _ (by omega), nf _ (by omega), fun t ht => by simp at ht, fun t ht => by simp at ht, fun k nd hk => by simp at hk⟩
  · have h := World.ownsRow_lit (base := w.heap.size) (e := 3) (size := 1) (w.alloc (.cells #[.slice none 0 0, .slice none 0 0] 90)) #[] 0 (by rw [hz]; omega) (by unfold maxLen; omega) rfl
    rw [hz] at h
    exact World.ownsRow.alloc h _
  · have h := World.ownsRow_lit (base := w.heap.size) (e := 3) (size := 1) ((w.alloc (.cells #[.slice none 0 0, .slice none 0 0] 90)).alloc (.cells #[] 3)) #[] 0 (by rw [hz2]; omega) (by unfold maxLen; omega) rfl
    rw [hz2] at h
    exact h

theorem upD_len (f : List Nd) : (f.map upN).length = f.length := by simp

/-- a game is put into the book -/
theorem MkS.root_calls {base : Nat} {wr : World} {Q : List Nd} {TL TR : List Nat} {gl cl gr cr : Nat} {vn vb : Value} {vs : List (Value × Value)} (h : MkS base wr Q TL TR gl cl gr cr vn vb vs) (W : World) (hW : Below wr.heap.size wr W) (v : Value) (f : List Nd) (hF : Fit f) (hn : Q.length ≤ 80000) (lo hi : Nat) (hh : hi ≤ base) (hv : NodesZ W lo hi v (f.map upN)) :
    Calls Try.prog 86 #[.pointer (some ⟨base, 0, none⟩), .agg #[v]] W fun e w' => e = .returned (.int .i64 ((addF (addF [] Q).1 f).2.getD (f.length - 1) 0 : Nat)) ∧ ∃ vn' vb' vs',
      Bk base w' base (addF (addF [] Q).1 f).1 (bornsOf (addF (addF [] Q).1 f).1) vn' vb' vs' (fun g => g = gl ∨ g = gr) ∧ Only W w' (Foot base vn vb) ∧ ∀ x, x < W.heap.size → Foot base vn' vb' x → Foot base vn vb x := by
  have hs := h.size
  have hz := hW.size
  refine root_callsX (fun g => g = gl ∨ g = gr) base base (addF [] Q).1 vn vb vs v f W lo hi hh (fun g hg => by rcases hg with hg | hg <;> omega) (fun g hg e => ?_) (h.bk.below hW) (addF_added [] book_nil Q h.und).book hv hF.under hF.pos (by have := (addF_len [] Q).2; have := hF.most; simp at *; omega) (fun nd hnd => by have := hF.small nd hnd; omega)
  rcases e with e | e
  · exact h.fl (e ▸ hg)
  · exact h.fr (e ▸ hg)

/-- ... and its place told -/
theorem MkS.next {base : Nat} {wr W w6 w7 : World} {Q : List Nd} {TL TR : List Nat} {gl cl gr cr : Nat} {vn vb vn' vb' v7 : Value} {vs vs' : List (Value × Value)} {f : List Nd} {u : Nat} (h : MkS base wr Q TL TR gl cl gr cr vn vb vs) (hF : Fit f) (hu : (addF (addF [] Q).1 f).2.getD (f.length - 1) 0 = u) (hW : Below wr.heap.size wr W)
    (hK6 : Bk base w6 base (addF (addF [] Q).1 f).1 (bornsOf (addF (addF [] Q).1 f).1) vn' vb' vs' (fun g => g = gl ∨ g = gr)) (ho6 : Only W w6 (Foot base vn vb)) (hf6 : ∀ g, g < W.heap.size → Foot base vn' vb' g → Foot base vn vb g)
    (hown7 : w7.ownsRow base 3 1 v7 (TL.length + 1) ((atT Q TL).map iv ++ [iv u])) (hgrow7 : (w6.alloc (.cells #[.int .i64 ((u : Nat) : Int)] 3)).grownBy w7 (Value.slice (some ⟨gl, 0, none⟩) TL.length cl).ownBlock)
    (hat7 : v7.ownBlock = (Value.slice (some ⟨gl, 0, none⟩) TL.length cl).ownBlock ∨ v7.ownBlock = some (w6.alloc (.cells #[.int .i64 ((u : Nat) : Int)] 3)).heap.size) :
    ∃ g7 c7, v7 = .slice (some ⟨g7, 0, none⟩) (TL.length + 1) c7 ∧ Hid (MkS base w7 (stk (Q, TL) f).1 (stk (Q, TL) f).2 TR g7 c7 gr cr vn' vb' vs') ∧ Hid (Below base wr w7) := by
  obtain ⟨g7, c7, rfl, _, hg7h⟩ := hown7.form (by omega)
  have hs := h.size
  have hll := h.ll
  have hlr := h.lr
  have hne := h.ne
  have HAPP : Only (w6.alloc (.cells #[.int .i64 ((u : Nat) : Int)] 3)) w7 (fun g => g = gl) := Only.of_grown hgrow7 (fun g e => by injection e with e; exact e.symm)
  have hal : Below w6.heap.size w6 (w6.alloc (.cells #[.int .i64 ((u : Nat) : Int)] 3)) := (Below.refl _ _).alloc (Nat.le_refl _) _
  have HK7a := hK6.below hal
  have hz6 : (w6.alloc (.cells #[.int .i64 ((u : Nat) : Int)] 3)).heap.size = w6.heap.size + 1 := by simp
  have hz5 := hW.size
  have hs6 := ho6.size
  have hglF : ¬ Foot base vn' vb' gl := fun hF => h.fl (hf6 gl (by omega) hF)
  have hgrF : ¬ Foot base vn' vb' gr := fun hF => h.fr (hf6 gr (by omega) hF)
  have hat : g7 = gl ∨ g7 = w6.heap.size + 1 := by
    rcases hat7 with e | e
    · left; injection e
    · right; rw [hz6] at e; injection e
  have HK7b := (HK7a.reX (Y := fun g => (g = gl ∨ g = w6.heap.size + 1) ∨ g = gr) (fun g hg e => by
    rcases e with (e | e) | e
    · exact Or.inl e
    · rw [hz6] at hg; omega
    · exact Or.inr e)).only (HAPP.mono (fun i _ e => Or.inl (Or.inl e))) (fun g hF e => by
    rcases e with (e | e) | e
    · exact hglF (e ▸ hF)
    · have := (HK7a.lt g hF).2; rw [hz6] at this; omega
    · exact hgrF (e ▸ hF))
  have HK7 : Bk base w7 base (addF (addF [] Q).1 f).1 (bornsOf (addF (addF [] Q).1 f).1) vn' vb' vs' (fun g => g = g7 ∨ g = gr) := HK7b.reX (fun g _ e => e.imp (fun e => by subst e; exact hat) id)
  have HNF7 : ¬ Foot base vn' vb' g7 := fun hF => by
    rcases hat with e | e
    · exact hglF (e ▸ hF)
    · have := (HK7a.lt g7 hF).2; rw [hz6] at this; omega
  have O6 : Only wr (w6.alloc (.cells #[.int .i64 ((u : Nat) : Int)] 3)) (Foot base vn vb) := ((Only.of_below (F := Foot base vn vb) hW).trans ho6 (fun i _ h => h)).trans (Only.of_below (F := Foot base vn vb) hal) (fun i _ h => h)
  have OT : Only wr w7 (fun g => Foot base vn vb g ∨ g = gl) := (O6.mono (fun i _ h => Or.inl h)).trans HAPP (fun i _ h => Or.inr h)
  have hR : w7.ownsRow base 3 1 (.slice (some ⟨gr, 0, none⟩) TR.length cr) TR.length ((atT Q TR).map iv) := own_only h.or_ OT (fun g e1 e2 => by
    injection e1 with e1
    subst e1
    rcases e2 with e2 | e2
    · exact h.fr e2
    · exact hne e2.symm)
  have hlen : Q.length ≤ (Q ++ shD Q.length f).length := by simp
  refine ⟨g7, c7, rfl, Lib.hid ⟨?_, ?_, ?_, by omega, hlr, by omega, HNF7, hgrF, ?_, fun t ht => Nat.lt_of_lt_of_le (h.tr t ht) hlen, under_sh h.und hF.under⟩, Lib.hid (OT.below (by omega) (fun g hg => by
    rcases hg with hg | hg
    · exact (h.bk.lt g hg).1
    · omega))⟩
  · show Bk base w7 base (addF [] (Q ++ shD Q.length f)).1 (bornsOf (addF [] (Q ++ shD Q.length f)).1) vn' vb' vs' _
    rw [addF_sh]
    exact HK7
  · show w7.ownsRow base 3 1 (.slice (some ⟨g7, 0, none⟩) (TL ++ [Q.length + f.length - 1]).length c7) (TL ++ [Q.length + f.length - 1]).length ((atT (Q ++ shD Q.length f) (TL ++ [Q.length + f.length - 1])).map iv)
    rw [atT_step Q TL f hF.pos h.tl, hu, List.map_append, List.length_append]
    exact hown7
  · show w7.ownsRow base 3 1 _ _ ((atT (Q ++ shD Q.length f) TR).map iv)
    rw [atT_keep Q TR f h.tr]
    exact hR
  · intro t ht
    have hp := hF.pos
    simp only [stk, List.mem_append, List.mem_singleton, List.length_append, shD_len] at ht ⊢
    rcases ht with ht | ht
    · have := h.tl t ht; omega
    · omega
end

section
set_option linter.unusedVariables false
set_option linter.unusedSimpArgs false
open Go.RowKit

theorem form_isM (P : List Nd) : (fo (addF [] P).1 ((addF [] P).2.getD (P.length - 1) 0) (bOf (addF [] P).1 ((addF [] P).2.getD (P.length - 1) 0) + 1)).2 = formM P := rfl

/-- a form at its place in a list of forms -/
theorem forms_at {w : World} {lo hi : Nat} {v : Value} {Fs : List (List Nd)} (h : FormsZ w lo hi v (Fs.map (fun f => f.map upN))) {i : Nat} {f : List Nd} (hf : Fs[i]? = some f) :
    ∃ b off c vf, v = .slice (some ⟨b, off, none⟩) Fs.length c ∧ b < hi ∧ w.cell? ⟨b, off + i, none⟩ = some vf ∧ NodesZ w lo hi vf (f.map upN) := by
  obtain ⟨ao, c, rfl, _, h3⟩ := h
  obtain ⟨b, off, vf, rfl, _, hb, p1, i1⟩ := h3 i (f.map upN) (by rw [List.getElem?_map, hf]; rfl)
  exact ⟨b, off, c, vf, by rw [List.length_map], hb, p1, i1⟩

/-- the node on top put in -/
theorem atT_last (Q : List Nd) (L R : List Nat) : (addF [] (Q ++ [(L, R)])).2.getD ((Q ++ [(L, R)]).length - 1) 0 = seat (addF [] Q).1 (sortd (atT Q L), sortd (atT Q R)) := by
  rw [addF_snoc]
  have hl := at_lenP [] Q
  show ((addF [] Q).2 ++ [_]).getD _ 0 = _
  rw [List.length_append, List.length_singleton, Nat.add_sub_cancel, ← hl, getD_snoc_last]
  rfl
theorem atT_book (Q : List Nd) (L R : List Nat) : (addF [] (Q ++ [(L, R)])).1 = bookPut (addF [] Q).1 (sortd (atT Q L), sortd (atT Q R)) := by
  rw [addF_snoc]
  rfl

theorem own_intsM {w : World} {base g n c : Nat} {A : List Nat} (h : w.ownsRow base 3 1 (.slice (some ⟨g, 0, none⟩) n c) n (A.map iv)) (hn : n ≤ 1000000) : IntsZ w g (g + 1) (.slice (some ⟨g, 0, none⟩) n c) (upL A) := (own_intsA h hn).2

set_option maxRecDepth 100000 in
set_option maxHeartbeats 8000000 in
theorem l3Make_calls (vl vr : Value) (ls rs : List (List Nd)) (w : World) (lo hi lo' hi' : Nat) (hh : hi ≤ w.heap.size) (hh' : hi' ≤ w.heap.size) (hl : FormsZ w lo hi vl (ls.map (fun f => f.map upN))) (hr : FormsZ w lo' hi' vr (rs.map (fun f => f.map upN)))
    (hFl : ∀ f ∈ ls, Fit f) (hFr : ∀ f ∈ rs, Fit f) (nl : ls.length ≤ 200) (nr : rs.length ≤ 200) :
    Calls Try.prog 49 #[vl, vr] w fun e w' => ∃ v, e = .returned (.agg #[v]) ∧ NodesZ w' w.heap.size w'.heap.size v ((formM (mkD ls rs)).map upN) ∧ Below w.heap.size w w' := by
  have HL := Lib.hid fun (W : World) (hW : Below w.heap.size w W) => hl.below hW hh
  have HR := Lib.hid fun (W : World) (hW : Below w.heap.size w W) => hr.below hW hh'
  have HFL := Lib.hid hFl
  have HFR := Lib.hid hFr
  obtain ⟨al, cl, hve⟩ : ∃ a c, vl = .slice a ls.length c := by obtain ⟨a, c, e, _⟩ := hl; exact ⟨a, c, by rw [e, List.length_map]⟩
  obtain ⟨ar, cr, hvr⟩ : ∃ a c, vr = .slice a rs.length c := by obtain ⟨a, c, e, _⟩ := hr; exact ⟨a, c, by rw [e, List.length_map]⟩
  subst hve hvr
  have e0 : (w.alloc (.cells #[.slice none 0 0] 24)).heap.size = w.heap.size + 1 := by simp
  have hst := MkS.start (w.alloc (.cells #[.slice none 0 0] 24))
  rw [e0] at hst
  have HST := Lib.hid hst
  have HB0 : Hid (Below w.heap.size w ((((w.alloc (.cells #[.slice none 0 0] 24)).alloc (.cells #[.slice none 0 0, .slice none 0 0] 90)).alloc (.cells #[] 3)).alloc (.cells #[] 3))) :=
    Lib.hid (((((Below.refl _ _).alloc (Nat.le_refl _) _).alloc (by simp) _).alloc (by simp; omega) _).alloc (by simp; omega) _)
  have HQ : Hid (∀ k, k ≤ ls.length → (stkL [] (ls.take k)).1.length ≤ 25000 ∧ (stkL [] (ls.take k)).2.length = k) := Lib.hid (fun k hk => by
    have h1 := stkL_len [] (ls.take k) (fun f hf => (hFl f (List.mem_of_mem_take hf)).most)
    have h2 := stkL_tops [] (ls.take k)
    have h3 : (ls.take k).length = k := by rw [List.length_take]; omega
    rw [h3] at h1 h2
    simp only [List.length_nil] at h1
    omega)
  clear hl hr hFl hFr hst e0
  go_enter Try.func49, Try.ntmps49
  go_wp2
  go_loopw [6, 8] (fun q i wr => ∃ (k g c : Nat) (vn vb : Value) (vs : List (Value × Value)), k ≤ ls.length ∧ i = .int .i64 k ∧ q = .slice (some ⟨g, 0, none⟩) k c ∧ Hid (MkS (w.heap.size + 1) wr (stkL [] (ls.take k)).1 (stkL [] (ls.take k)).2 [] g c (w.heap.size + 3) 0 vn vb vs) ∧
      Hid (Below w.heap.size w wr) ∧ Hid (BoxAt wr w.heap.size (.slice none 0 0))) (fun _ i _ => ls.length - (intOf i).toNat)
  case atStart => exact ⟨0, w.heap.size + 2, 0, _, _, _, Nat.zero_le _, rfl, rfl, by rw [List.take_zero]; exact HST, HB0, Lib.hid ⟨by go_simp, by go_simp⟩⟩
  case round =>
    obtain ⟨k, g, c, vn, vb, vs, hk, rfl, rfl, hS, hb, hx⟩ := hrel
    clear HST HB0
    by_cases hlt : k < ls.length
    · obtain ⟨f, hf⟩ := lt_get hlt
      have hFf := HFL.out f (List.mem_of_getElem? hf)
      obtain ⟨b, off, cc, vf, e, hbh, p1, i1⟩ := forms_at (HL.out wr hb.out) hf
      obtain ⟨q1, q2, q3⟩ := slice_inj e
      clear q2
      subst q1 q3
      obtain ⟨hQl, hTl⟩ := HQ.out k hk
      have HTK := Lib.hid (show stkL [] (ls.take (k + 1)) = stk (stkL [] (ls.take k)) f from by rw [List.take_add_one, hf]; exact stkL_snoc _ _ _)
      obtain ⟨Q, hQ⟩ : ∃ Q, (stkL [] (ls.take k)).1 = Q := ⟨_, rfl⟩
      obtain ⟨T, hT⟩ : ∃ T, (stkL [] (ls.take k)).2 = T := ⟨_, rfl⟩
      have HPR : Hid (stkL [] (ls.take (k + 1)) = stk (Q, T) f) := Lib.hid (by rw [HTK.out, ← hQ, ← hT])
      rw [hQ, hT] at hS
      rw [hQ] at hQl
      rw [hT] at hTl
      obtain ⟨u, hu⟩ : ∃ u, (addF (addF [] Q).1 f).2.getD (f.length - 1) 0 = u := ⟨_, rfl⟩
      have C := Lib.hid (hS.out.root_calls wr (Below.refl _ _) vf f hFf (by omega) lo hi (by omega) i1)
      rw [hu] at C
      have HU := Lib.hid hu
      have HTL := Lib.hid hTl
      have HFF := Lib.hid hFf
      have hbs := hb.out.size
      obtain ⟨_, hgr, hbase⟩ := hS.out.size
      have hfl := hS.out.fl
      have HOL := Lib.hid hS.out.ol
      obtain ⟨i0, hi0, hz0, hz1, hz2⟩ := info_parts infoIntA
      have b0 : (0 : Int) ≤ k := by omega
      have b1 : (k : Int) < ls.length := by omega
      obtain ⟨af, nf, cf, hvf⟩ : ∃ a n c, vf = .slice a n c := by obtain ⟨a, c, e, _⟩ := i1; exact ⟨a, _, c, e⟩
      subst hvf
      clear e i1 hf hQ hT hu hTl HTK hFf
      go_wp2_with fail
      refine C.out.mono ?_
      rintro e w6 ⟨rfl, vn', vb', vs', hK6, ho6, hf6⟩
      have HK6 := Lib.hid hK6
      have HF6 := Lib.hid hf6
      have HO6 := Lib.hid ho6
      have hown6 := Lib.hid (World.ownsRow.alloc (own_only HOL.out ho6 (fun q e => by injection e with e; subst e; exact hfl)) (.cells #[.int .i64 (u : Int)] 3))
      rw [HTL.out] at hown6
      have hs6 := ho6.size
      clear hK6 ho6 hf6 C
      go_wp2_with (at_builtin; refine wpList_append_own_at _ rfl _ _ 53 rfl (w.heap.size + 1) 3 i0 (.int .i64 0) 1 8 Try.underlying53 hi0 hz0 hz1 hz2 rfl (by decide) _ _ _ rfl hown6.out ⟨w6.heap.size, 0, none⟩ 1 1 [iv u] rfl rfl (cell_one_new _ _ _) (by simp [iv, Value.oneCell']) (by unfold maxLen; omega) (by omega) (by simp; omega) ?_; intro v7 w7 hown7 hgrow7 hnil7 hat7)
      obtain ⟨g7, c7, rfl, HS7, HB7⟩ := hS.out.next HFF.out HU.out (Below.refl _ _) HK6.out HO6.out HF6.out (by rw [HTL.out]; exact hown7) (by rw [HTL.out]; exact hgrow7) (by rw [HTL.out]; exact hat7)
      rw [HTL.out]
      have S7 : Hid (MkS (w.heap.size + 1) w7 (stkL [] (ls.take (k + 1))).1 (stkL [] (ls.take (k + 1))).2 [] g7 c7 (w.heap.size + 3) 0 vn' vb' vs') := Lib.hid (by rw [HPR.out]; exact HS7.out)
      have B7 : Hid (Below w.heap.size w w7) := Lib.hid (hb.out.trans (HB7.out.mono (by omega)))
      have X7 : Hid (BoxAt w7 w.heap.size (.slice none 0 0)) := Lib.hid (hx.out.block (HB7.out.block _ (by omega)))
      clear hown7 hgrow7 hnil7 hat7 HS7 HB7 hb hx hS p1 hown6 HK6 HO6 HF6 HOL
      go_wp2
      go_roundw
      case rel => exact ⟨k + 1, g7, c7, vn', vb', vs', by omega, by go_num, rfl, S7, B7, X7⟩
      case measure => simp [intOf]; omega
    · have hkl : k = ls.length := by omega
      subst hkl
      rw [List.take_length] at hS
      obtain ⟨hQ1, hT1⟩ := HQ.out ls.length (Nat.le_refl _)
      rw [List.take_length] at hQ1 hT1
      obtain ⟨Q1, hQe⟩ : ∃ Q, (stkL [] ls).1 = Q := ⟨_, rfl⟩
      obtain ⟨T1, hTe⟩ : ∃ T, (stkL [] ls).2 = T := ⟨_, rfl⟩
      rw [hQe, hTe] at hS
      rw [hQe] at hQ1
      rw [hTe] at hT1
      have HMK : Hid (mkD ls rs = (stkL Q1 rs).1 ++ [(T1, (stkL Q1 rs).2)]) := Lib.hid (by unfold mkD; rw [hQe, hTe])
      have HT1 := Lib.hid hT1
      have HQ2 : Hid (∀ j, j ≤ rs.length → (stkL Q1 (rs.take j)).1.length ≤ 50000 ∧ (stkL Q1 (rs.take j)).2.length = j) := Lib.hid (fun j hj => by
        have h1 := stkL_len Q1 (rs.take j) (fun f hf => (HFR.out f (List.mem_of_mem_take hf)).most)
        have h2 := stkL_tops Q1 (rs.take j)
        have h3 : (rs.take j).length = j := by rw [List.length_take]; omega
        rw [h3] at h1 h2
        omega)
      have HS1 := Lib.hid hS.out.swap
      clear hS hQe hTe hT1
      go_wp2
      go_loopw [7, 9] (fun q i wr => ∃ (j g2 c2 : Nat) (vn vb : Value) (vs : List (Value × Value)), j ≤ rs.length ∧ i = .int .i64 j ∧ q = .slice (some ⟨g2, 0, none⟩) j c2 ∧ Hid (MkS (w.heap.size + 1) wr (stkL Q1 (rs.take j)).1 (stkL Q1 (rs.take j)).2 T1 g2 c2 g c vn vb vs) ∧
          Hid (Below w.heap.size w wr) ∧ Hid (BoxAt wr w.heap.size (.slice none 0 0))) (fun _ i _ => rs.length - (intOf i).toNat)
      case atStart => exact ⟨0, w.heap.size + 3, 0, _, _, _, Nat.zero_le _, rfl, rfl, by rw [List.take_zero]; exact HS1, hb, hx⟩
      case round =>
        clear hb hx HS1 vn vb vs
        obtain ⟨j, g2, c2, vn, vb, vs, hj, rfl, rfl, hS, hb, hx⟩ := hrel
        by_cases hlt : j < rs.length
        · obtain ⟨f, hf⟩ := lt_get hlt
          have hFf := HFR.out f (List.mem_of_getElem? hf)
          obtain ⟨b, off, cc, vf, e, hbh, p1, i1⟩ := forms_at (HR.out wr hb.out) hf
          obtain ⟨q1, q2, q3⟩ := slice_inj e
          clear q2
          subst q1 q3
          obtain ⟨hQl, hTl⟩ := HQ2.out j hj
          have HTK := Lib.hid (show stkL Q1 (rs.take (j + 1)) = stk (stkL Q1 (rs.take j)) f from by rw [List.take_add_one, hf]; exact stkL_snoc _ _ _)
          obtain ⟨Q, hQ⟩ : ∃ Q, (stkL Q1 (rs.take j)).1 = Q := ⟨_, rfl⟩
          obtain ⟨T, hT⟩ : ∃ T, (stkL Q1 (rs.take j)).2 = T := ⟨_, rfl⟩
          have HPR : Hid (stkL Q1 (rs.take (j + 1)) = stk (Q, T) f) := Lib.hid (by rw [HTK.out, ← hQ, ← hT])
          rw [hQ, hT] at hS
          rw [hQ] at hQl
          rw [hT] at hTl
          obtain ⟨u, hu⟩ : ∃ u, (addF (addF [] Q).1 f).2.getD (f.length - 1) 0 = u := ⟨_, rfl⟩
          have C := Lib.hid (hS.out.root_calls wr (Below.refl _ _) vf f hFf (by omega) lo' hi' (by omega) i1)
          rw [hu] at C
          have HU := Lib.hid hu
          have HTL := Lib.hid hTl
          have HFF := Lib.hid hFf
          have hbs := hb.out.size
          obtain ⟨_, hgr, hbase⟩ := hS.out.size
          have hfl := hS.out.fl
          have HOL := Lib.hid hS.out.ol
          obtain ⟨i0, hi0, hz0, hz1, hz2⟩ := info_parts infoIntA
          have b0 : (0 : Int) ≤ j := by omega
          have b1 : (j : Int) < rs.length := by omega
          obtain ⟨af, nf, cf, hvf⟩ : ∃ a n c, vf = .slice a n c := by obtain ⟨a, c, e, _⟩ := i1; exact ⟨a, _, c, e⟩
          subst hvf
          clear e i1 hf hQ hT hu hTl HTK hFf
          go_wp2_with fail
          refine C.out.mono ?_
          rintro e w6 ⟨rfl, vn', vb', vs', hK6, ho6, hf6⟩
          have HK6 := Lib.hid hK6
          have HF6 := Lib.hid hf6
          have HO6 := Lib.hid ho6
          have hown6 := Lib.hid (World.ownsRow.alloc (own_only HOL.out ho6 (fun q e => by injection e with e; subst e; exact hfl)) (.cells #[.int .i64 (u : Int)] 3))
          rw [HTL.out] at hown6
          have hs6 := ho6.size
          clear hK6 ho6 hf6 C
          go_wp2_with (at_builtin; refine wpList_append_own_at _ rfl _ _ 53 rfl (w.heap.size + 1) 3 i0 (.int .i64 0) 1 8 Try.underlying53 hi0 hz0 hz1 hz2 rfl (by decide) _ _ _ rfl hown6.out ⟨w6.heap.size, 0, none⟩ 1 1 [iv u] rfl rfl (cell_one_new _ _ _) (by simp [iv, Value.oneCell']) (by unfold maxLen; omega) (by omega) (by simp; omega) ?_; intro v7 w7 hown7 hgrow7 hnil7 hat7)
          obtain ⟨g7, c7, rfl, HS7, HB7⟩ := hS.out.next HFF.out HU.out (Below.refl _ _) HK6.out HO6.out HF6.out (by rw [HTL.out]; exact hown7) (by rw [HTL.out]; exact hgrow7) (by rw [HTL.out]; exact hat7)
          rw [HTL.out]
          have S7 : Hid (MkS (w.heap.size + 1) w7 (stkL Q1 (rs.take (j + 1))).1 (stkL Q1 (rs.take (j + 1))).2 T1 g7 c7 g c vn' vb' vs') := Lib.hid (by rw [HPR.out]; exact HS7.out)
          have B7 : Hid (Below w.heap.size w w7) := Lib.hid (hb.out.trans (HB7.out.mono (by omega)))
          have X7 : Hid (BoxAt w7 w.heap.size (.slice none 0 0)) := Lib.hid (hx.out.block (HB7.out.block _ (by omega)))
          clear hown7 hgrow7 hnil7 hat7 HS7 HB7 hb hx hS p1 hown6 HK6 HO6 HF6 HOL
          go_wp2
          go_roundw
          case rel => exact ⟨j + 1, g7, c7, vn', vb', vs', by omega, by go_num, rfl, S7, B7, X7⟩
          case measure => simp [intOf]; omega
        · have hje : j = rs.length := by omega
          subst hje
          rw [List.take_length] at hS
          obtain ⟨hQ2, hT2⟩ := HQ2.out rs.length (Nat.le_refl _)
          rw [List.take_length] at hQ2 hT2
          obtain ⟨Q2, hQe⟩ : ∃ Q, (stkL Q1 rs).1 = Q := ⟨_, rfl⟩
          obtain ⟨T2, hTe⟩ : ∃ T, (stkL Q1 rs).2 = T := ⟨_, rfl⟩
          rw [hQe, hTe] at hS HMK
          rw [hQe] at hQ2
          rw [hTe] at hT2
          have HT2 := Lib.hid hT2
          have hbs := hb.out.size
          obtain ⟨hg2, hg1, hbase⟩ := hS.out.size
          have hsl := hS.out.ll
          have hsr := hS.out.lr
          have hal := (addF_len [] Q2).2
          have hal2 : (addF [] Q2).1.length ≤ 50000 := by simp at hal; omega
          have hadd := addF_added [] book_nil Q2 hS.out.und
          have hI1 := own_intsM hS.out.or_ (by rw [HT1.out]; omega)
          have hI2 := own_intsM hS.out.ol (by rw [HT2.out]; omega)
          rw [HT1.out] at hI1
          rw [HT2.out] at hI2
          have hat : ∀ t, t < Q2.length → (addF [] Q2).2.getD t 0 < (addF [] Q2).1.length := fun t ht => by
            obtain ⟨n0, hn0⟩ := lt_get ht
            exact get_lt (hadd.node t n0 hn0)
          have CP := Lib.hid (put_calls (w.heap.size + 1) (w.heap.size + 1) (addF [] Q2).1 vn vb vs (fun q => q = g2 ∨ q = g) (.slice (some ⟨g, 0, none⟩) ls.length c) (.slice (some ⟨g2, 0, none⟩) rs.length c2) (atT Q2 T1) (atT Q2 T2) wr g (g + 1) g2 (g2 + 1) (by omega) (by omega) hS.out.bk (fun q e => by omega) hadd.book.struct.under hI1 hI2
            (fun y hy => by obtain ⟨t, ht, rfl⟩ := List.mem_map.1 hy; exact hat t (hS.out.tr t ht)) (fun y hy => by obtain ⟨t, ht, rfl⟩ := List.mem_map.1 hy; exact hat t (hS.out.tl t ht)) (by omega) (by unfold atT; rw [List.length_map, HT1.out]; omega) (by unfold atT; rw [List.length_map, HT2.out]; omega))
          have hlast := atT_last Q2 T1 T2
          have hbk := atT_book Q2 T1 T2
          rw [← HMK.out] at hlast hbk
          rw [← hlast, ← hbk] at CP
          have hMu : Under (mkD ls rs) := mkD_under HFL.out HFR.out
          have hMl : (mkD ls rs).length ≤ 50001 := by rw [HMK.out]; simp; omega
          have hMp : 0 < (mkD ls rs).length := by rw [HMK.out]; simp
          have hMa := addF_added [] book_nil (mkD ls rs) hMu
          have hMb := (addF_len [] (mkD ls rs)).2
          obtain ⟨M, hM⟩ : ∃ M, mkD ls rs = M := ⟨_, rfl⟩
          have HM := Lib.hid hM
          rw [hM] at CP hMl hMp hMa hMb
          obtain ⟨z, hz⟩ : ∃ z, (addF [] M).2.getD (M.length - 1) 0 = z := ⟨_, rfl⟩
          have hzl : z < (addF [] M).1.length := by
            rw [← hz]
            obtain ⟨n0, hn0⟩ := lt_get (l := M) (i := M.length - 1) (by omega)
            exact get_lt (hMa.node _ n0 hn0)
          have hFI := form_isM M
          rw [hz] at CP hFI
          have HFI := Lib.hid hFI
          have HMB := Lib.hid hMa.book
          have hMb2 : (addF [] M).1.length ≤ 90000 := by simp at hMb; omega
          have HFT := Lib.hid hS.out.bk.lt
          clear hI1 hI2 hadd hat hS hlast hbk hMu hMa hMb hM hz hFI hQe hTe hT2 hal HMK hMp hMl
          go_wp2_with fail
          refine CP.out.mono ?_
          rintro e w6 ⟨rfl, vn', vb', vs', hK6, ho6, hf6⟩
          have hs6 := ho6.size
          have HB6 : Hid (Below (w.heap.size + 1) wr w6) := Lib.hid (ho6.below (by omega) (fun q hq => (HFT.out q hq).1))
          have CF := Lib.hid (form_calls (w.heap.size + 1) (w.heap.size + 1) (addF [] M).1 vn' vb' vs' (fun q => q = g2 ∨ q = g) z w6 hK6 HMB.out hzl hMb2)
          rw [HFI.out] at CF
          obtain ⟨G, hG⟩ : ∃ G, (formM M).map upN = G := ⟨_, rfl⟩
          have HG := Lib.hid hG
          rw [hG] at CF
          have hx6 := hx.out.block (HB6.out.block _ (by omega))
          have HB6' := Lib.hid (hb.out.trans (HB6.out.mono (by omega)))
          have hs6w := HB6'.out.size
          clear hK6 ho6 hf6 CP hG hx hb
          go_wp2_with fail
          refine CF.out.mono ?_
          rintro e w5 ⟨v, rfl, hn5, hb5⟩
          obtain ⟨d5, z5⟩ := hx6.below hb5
          have hlt1 := block_of_cell hx6.1
          have HB5 : Hid (Below w.heap.size w (w5.setCell ⟨w.heap.size, 0, none⟩ v)) := Lib.hid ((HB6'.out.trans (hb5.mono hs6w)).setCell (Nat.le_refl _) _)
          have HN : Hid (NodesZ (w5.setCell ⟨w.heap.size, 0, none⟩ v) w.heap.size (w5.setCell ⟨w.heap.size, 0, none⟩ v).heap.size v G) := Lib.hid ((NodesZ.keep hn5 (fun b o h1 h2 => World.cell?_setCell_other _ _ _ _ (fun e => by injection e with e _ _; omega))).wide hs6w (by simp))
          have hcr := World.cell?_setCell_same w5 ⟨w.heap.size, 0, none⟩ v d5
          obtain ⟨av, cv, rfl, _⟩ := (show ∃ a c, v = .slice a G.length c ∧ True from by obtain ⟨a, c, e, _⟩ := hn5; exact ⟨a, c, e, trivial⟩)
          clear hn5 hb5 CF hx6
          go_wp2_with fail
          refine bodyPost_ret (v := .agg #[.slice av G.length cv]) (by simp [results, Try.results49, go_sem, hcr]) rfl ?_
          rw [HM.out, HG.out]
          exact ⟨_, rfl, HN.out, HB5.out⟩
end

section
section
open Go.RowKit
set_option linter.unusedVariables false
set_option linter.unusedSimpArgs false

theorem slice_form {w : World} {lo hi : Nat} {v : Value} {f : List Nz} (h : NodesZ w lo hi v f) : ∃ a c, v = .slice a f.length c := by obtain ⟨a, c, e, _⟩ := h; exact ⟨a, c, e⟩

theorem l3If_calls (v : Value) (f : List Nz) (ok : Bool) (hok : Hid (fitsB f = ok)) (w : World) (lo hi : Nat) (hh : hi ≤ w.heap.size) (hv : NodesZ w lo hi v f) :
    Calls Try.prog 44 #[.agg #[v]] w fun e w' => e = .returned (.tuple #[.agg #[if ok then v else .slice none 0 0], .bool ok]) ∧ Below w.heap.size w w' := by
  have HB0 := Lib.hid fun o o' => show Below w.heap.size w ((w.alloc o).alloc o') from ((Below.refl _ _).alloc (Nat.le_refl _) _).alloc (by simp) _
  have C := Lib.hid fun (W : World) (hW : Below w.heap.size w W) => show Calls Try.prog 69 #[.agg #[v]] W fun e w' => e = .returned (.bool ok) ∧ Below W.heap.size W w' from by
    rw [← hok.out]
    exact fitsS_calls v f W lo hi (Nat.le_trans hh hW.size) (hv.below hW hh)
  obtain ⟨av, cv, rfl⟩ := slice_form hv
  clear hok hv
  go_enter Try.func44, Try.ntmps44
  go_wp2_with fail
  refine (C.out _ (HB0.out _ _)).mono ?_
  rintro e w4 ⟨rfl, hb4⟩
  have k0 : w4.cell? ⟨w.heap.size, 0, none⟩ = some (.slice av f.length cv) := (bcell hb4 _ _ (by simp; omega)).trans (by go_simp)
  obtain ⟨d0, z0⟩ : BoxAt w4 (w.heap.size + 1) (.slice none 0 0) := BoxAt.below ⟨by go_simp, by go_simp⟩ hb4
  have HB4 := Lib.hid (Below.trans (HB0.out _ _) (hb4.mono (by simp; omega)))
  have hlt := block_of_cell d0
  clear hb4 C
  cases ok with
  | false =>
    have B4 := Lib.hid (HB4.out.setCell (p := ⟨w.heap.size + 1, 0, none⟩) (by show w.heap.size ≤ w.heap.size + 1; omega) (.slice none 0 0))
    have hcr := World.cell?_setCell_same w4 ⟨w.heap.size + 1, 0, none⟩ (.slice none 0 0) d0
    go_wp2_with fail
    exact bodyPost_ret (v := .tuple #[.agg #[.slice none 0 0], .bool false]) (by simp [results, Try.results44, go_sem, hcr]) rfl ⟨rfl, B4.out⟩
  | true =>
    have B4 := Lib.hid (HB4.out.setCell (p := ⟨w.heap.size + 1, 0, none⟩) (by show w.heap.size ≤ w.heap.size + 1; omega) (.slice av f.length cv))
    have hcr := World.cell?_setCell_same w4 ⟨w.heap.size + 1, 0, none⟩ (.slice av f.length cv) d0
    go_wp2_with fail
    exact bodyPost_ret (v := .tuple #[.agg #[.slice av f.length cv], .bool true]) (by simp [results, Try.results44, go_sem, hcr]) rfl ⟨rfl, B4.out⟩

theorem fitsN_B (P : List Nd) : fitsN P = fitsB (P.map upN) := by
  have h1 := fitsN_iff P
  have h2 := fitsB_iff (P.map upN)
  cases hN : fitsN P <;> cases hB : fitsB (P.map upN)
  · rfl
  · rw [h2] at hB; rw [h1.2 hB] at hN; exact hN.symm
  · rw [h1] at hN; rw [h2.2 hN] at hB; exact hB
  · rfl

end
end

section
open Go.RowKit
set_option linter.unusedVariables false
set_option linter.unusedSimpArgs false

theorem goodS_res (v : Value) (f : List Nz) (r : Bool) (hr : Hid (goodB f = r)) (w : World) (lo hi : Nat) (hh : hi ≤ w.heap.size) (hv : NodesZ w lo hi v f) :
    Calls Try.prog 53 #[.agg #[v]] w fun e w' => e = .returned (.bool r) ∧ Below w.heap.size w w' := by
  rw [← hr.out]
  exact goodS_calls v f w lo hi hh hv
end

section
set_option linter.unusedVariables false
set_option linter.unusedSimpArgs false
open Go.RowKit

/-- are all forms good, and at most so many? -/
def alB (m : Nat) (Fs : List (List Nz)) : Bool := decide (Fs.length ≤ m) && Fs.all goodB

theorem fit_goodM {f : List Nz} (h : goodB f = true) : Fit (f.map downN) := by
  obtain ⟨h1, h2, h3, h4⟩ := (goodB_iff f).1 h
  refine ⟨by simpa using h1.1, by have := h1.2.1; simp; omega, h2.up.2.under, h4, fun nd hnd => ?_⟩
  obtain ⟨x, hx, rfl⟩ := List.mem_map.1 hnd
  have := h1.2.2 x hx
  simpa [downN, downL] using this

theorem all_take_snoc {Fs : List (List Nz)} {k : Nat} {f : List Nz} (h : ∀ g ∈ Fs.take k, goodB g = true) (hf : Fs[k]? = some f) (hg : goodB f = true) : ∀ g ∈ Fs.take (k + 1), goodB g = true := fun g hm => by
  rw [List.take_add_one, hf] at hm
  rcases List.mem_append.1 hm with h1 | h1
  · exact h g h1
  · simp at h1; rw [h1]; exact hg

set_option maxRecDepth 100000 in
set_option maxHeartbeats 1000000 in
theorem l3All_calls (v : Value) (Fs : List (List Nz)) (m : Nat) (hm : m ≤ 1000) (r : Bool) (hr : Hid (alB m Fs = r)) (w : World) (lo hi : Nat) (hh : hi ≤ w.heap.size) (hv : FormsZ w lo hi v Fs) :
    Calls Try.prog 48 #[v, .int .i64 m] w fun e w' => e = .returned (.bool r) ∧ Below w.heap.size w w' := by
  have HV := Lib.hid hv
  obtain ⟨ao, c, rfl, hcap, _⟩ := hv
  go_enter Try.func48, Try.ntmps48
  go_wp2
  go_loopw [5] (fun i wr => ∃ k : Nat, k ≤ Fs.length ∧ k ≤ m + 1 ∧ i = .int .i64 k ∧ Hid (∀ g ∈ Fs.take k, goodB g = true) ∧ Hid (Below w.heap.size w wr)) (fun i _ => Fs.length - (intOf i).toNat)
  case atStart => exact ⟨0, Nat.zero_le _, by omega, rfl, Lib.hid (fun f hf => by simp at hf), Lib.hid (Below.refl _ _)⟩
  case round =>
    obtain ⟨k, hk, hkm, rfl, hgd, hb⟩ := hrel
    by_cases hlt : k < Fs.length
    · by_cases hle : k ≤ m
      · obtain ⟨f, hf⟩ := lt_get hlt
        obtain ⟨ao1, c1, e1, _, hn⟩ := HV.out.below hb.out hh
        obtain ⟨b, off, vf, rfl, _, hbh, p1, i1⟩ := hn k f hf
        obtain ⟨q1, q2, q3⟩ := slice_inj e1
        subst q1 q3
        clear q2 hn e1
        obtain ⟨rf, hrf⟩ : ∃ r, goodB f = r := ⟨_, rfl⟩
        have C := Lib.hid (goodS_res vf f rf (Lib.hid hrf) wr lo hi (by have := hb.out.size; omega) i1)
        have HF := Lib.hid hf
        have HRF := Lib.hid hrf
        have hbs := hb.out.size
        obtain ⟨af, nf, cf, rfl⟩ : ∃ a n c, vf = .slice a n c := by obtain ⟨a, c, e, _⟩ := i1; exact ⟨a, _, c, e⟩
        have k0 : (0 : Int) ≤ k := by omega
        have k1 : (k : Int) < Fs.length := by omega
        have k2 : (k : Int) ≤ m := by omega
        clear hf hrf i1
        go_wp2_with fail
        refine C.out.mono ?_
        rintro e w1 ⟨rfl, hb1⟩
        have HB1 := Lib.hid (hb.out.trans (hb1.mono hbs))
        clear hb1 C hb p1
        cases rf with
        | false =>
          obtain rfl : r = false := by
            rw [← hr.out]
            unfold alB
            rw [Bool.and_eq_false_iff]
            right
            rw [List.all_eq_false]
            exact ⟨f, List.mem_of_getElem? HF.out, by rw [HRF.out]; simp⟩
          clear hr
          go_wp2_with fail
          go_ret
          exact ⟨rfl, HB1.out⟩
        | true =>
          have HG2 := Lib.hid (all_take_snoc hgd.out HF.out HRF.out)
          clear hgd
          go_wp2_with fail
          go_roundw
          case rel => exact ⟨k + 1, by omega, by omega, by go_num, HG2, HB1⟩
          case measure => first | (simp [intOf]; done) | (simp [intOf]; omega)
      · obtain rfl : r = false := by
          rw [← hr.out]
          unfold alB
          rw [Bool.and_eq_false_iff]
          left
          rw [decide_eq_false_iff_not]
          omega
        have k1 : (k : Int) < Fs.length := by omega
        have k2 : ¬ (k : Int) ≤ m := by omega
        have k3 : ¬ (Fs.length : Int) ≤ m := by omega
        clear hr
        go_wp2
        go_ret
        exact ⟨by first | rfl | exact ret_bool (decide_eq_false k3) | exact ret_bool (by simp; omega), hb.out⟩
    · have hke : k = Fs.length := by omega
      subst hke
      have HRR : Hid (decide (Fs.length ≤ m) = r) := Lib.hid (by
        rw [← hr.out]
        unfold alB
        have h := hgd.out
        rw [List.take_length] at h
        rw [List.all_eq_true.2 h, Bool.and_true])
      clear hr hgd
      go_wp2
      all_goals
        go_ret
        exact ⟨by first | exact ret_bool HRR.out | exact ret_bool (by rw [← HRR.out]; simp) | exact ret_bool (by rw [← HRR.out]; simp; omega), hb.out⟩

/-- is there a game with these options? -/
def mkOk (Ls Rs : List (List Nz)) : Bool := alB 100 Ls && (alB 100 Rs && fitsN (formM (mkD (Ls.map (fun f => f.map downN)) (Rs.map (fun f => f.map downN)))))
/-- the game, or nothing -/
def mkV (Ls Rs : List (List Nz)) : List Nz := if mkOk Ls Rs then (formM (mkD (Ls.map (fun f => f.map downN)) (Rs.map (fun f => f.map downN)))).map upN else []
theorem mkV_no {Ls Rs : List (List Nz)} (h : mkOk Ls Rs = false) : mkV Ls Rs = [] := by unfold mkV; rw [h]; rfl
theorem mkV_yes {Ls Rs : List (List Nz)} (h : mkOk Ls Rs = true) : mkV Ls Rs = (formM (mkD (Ls.map (fun f => f.map downN)) (Rs.map (fun f => f.map downN)))).map upN := by unfold mkV; rw [h]; rfl
theorem alB_parts {m : Nat} {Fs : List (List Nz)} (h : alB m Fs = true) : Fs.length ≤ m ∧ ∀ f ∈ Fs, goodB f = true := by
  unfold alB at h
  rw [Bool.and_eq_true, decide_eq_true_eq, List.all_eq_true] at h
  exact h
theorem forms_up {Fs : List (List Nz)} (h : ∀ f ∈ Fs, goodB f = true) : (Fs.map (fun f => f.map downN)).map (fun f => f.map upN) = Fs := by
  rw [List.map_map]
  refine (List.map_congr_left fun f hf => ?_).trans (List.map_id Fs)
  exact ((goodB_iff f).1 (h f hf)).2.1.up.1
theorem forms_fit {Fs : List (List Nz)} (h : ∀ f ∈ Fs, goodB f = true) : ∀ f ∈ Fs.map (fun f => f.map downN), Fit f := fun f hf => by
  obtain ⟨x, hx, rfl⟩ := List.mem_map.1 hf
  exact fit_goodM (h x hx)

def MkPostS (w : World) (g : List Nz) (ok : Bool) (e : Ending) (w' : World) : Prop := ∃ a c, e = .returned (.tuple #[.agg #[.slice a g.length c], .bool ok]) ∧ NodesZ w' w.heap.size w'.heap.size (.slice a g.length c) g ∧ Below w.heap.size w w'

set_option maxRecDepth 100000 in
set_option maxHeartbeats 2000000 in
theorem makeS_calls (vl vr : Value) (Ls Rs : List (List Nz)) (g : List Nz) (ok : Bool) (hok : Hid (mkOk Ls Rs = ok)) (hg : Hid (mkV Ls Rs = g)) (w : World) (lo hi lo' hi' : Nat) (hh : hi ≤ w.heap.size) (hh' : hi' ≤ w.heap.size) (hl : FormsZ w lo hi vl Ls) (hr : FormsZ w lo' hi' vr Rs) :
    Calls Try.prog 19 #[vl, vr] w (MkPostS w g ok) := by
  obtain ⟨r1, hr1⟩ : ∃ r, alB 100 Ls = r := ⟨_, rfl⟩
  obtain ⟨r2, hr2⟩ : ∃ r, alB 100 Rs = r := ⟨_, rfl⟩
  have HB0 := Lib.hid fun o => show Below w.heap.size w (w.alloc o) from (Below.refl _ _).alloc (Nat.le_refl _) _
  have C1 := Lib.hid fun (W : World) (hW : Below w.heap.size w W) => l3All_calls vl Ls 100 (by omega) r1 (Lib.hid hr1) W lo hi (Nat.le_trans hh hW.size) (hl.below hW hh)
  have C2 := Lib.hid fun (W : World) (hW : Below w.heap.size w W) => l3All_calls vr Rs 100 (by omega) r2 (Lib.hid hr2) W lo' hi' (Nat.le_trans hh' hW.size) (hr.below hW hh')
  have HL := Lib.hid fun (W : World) (hW : Below w.heap.size w W) => hl.below hW hh
  have HR := Lib.hid fun (W : World) (hW : Below w.heap.size w W) => hr.below hW hh'
  have H1 := Lib.hid hr1
  have H2 := Lib.hid hr2
  obtain ⟨al, cl, rfl⟩ : ∃ a c, vl = .slice a Ls.length c := by obtain ⟨a, c, e, _⟩ := hl; exact ⟨a, c, e⟩
  obtain ⟨ar, cr, rfl⟩ : ∃ a c, vr = .slice a Rs.length c := by obtain ⟨a, c, e, _⟩ := hr; exact ⟨a, c, e⟩
  have hx0 : BoxAt (w.alloc (.cells #[.slice none 0 0] 24)) w.heap.size (.slice none 0 0) := ⟨by go_simp, by go_simp⟩
  clear hl hr hr1 hr2
  go_enter Try.func19, Try.ntmps19
  go_wp2_with fail
  refine (C1.out _ (HB0.out _)).mono ?_
  rintro e w1 ⟨rfl, hb1⟩
  have hx1 := hx0.below hb1
  have HB1 := Lib.hid (Below.trans (HB0.out _) (hb1.mono (by simp)))
  clear hb1 C1 hx0
  cases r1 with
  | false =>
    obtain rfl : ok = false := by rw [← hok.out]; unfold mkOk; rw [H1.out]; rfl
    obtain rfl : g = [] := by rw [← hg.out, mkV_no hok.out]
    obtain ⟨d1, z1⟩ := hx1
    have B4 := Lib.hid (HB1.out.setCell (p := ⟨w.heap.size, 0, none⟩) (Nat.le_refl _) (.slice none 0 0))
    have hcr := World.cell?_setCell_same w1 ⟨w.heap.size, 0, none⟩ (.slice none 0 0) d1
    go_wp2_with fail
    exact bodyPost_ret (v := .tuple #[.agg #[.slice none 0 0], .bool false]) (by simp [results, Try.results19, go_sem, hcr]) rfl ⟨none, 0, rfl, ⟨none, 0, rfl, by simp, fun j nd hj => by simp at hj⟩, B4.out⟩
  | true =>
    have hs1 := HB1.out.size
    go_wp2_with fail
    refine (C2.out _ HB1.out).mono ?_
    rintro e w2 ⟨rfl, hb2⟩
    have hx2 := hx1.below hb2
    have HB2 := Lib.hid (HB1.out.trans (hb2.mono hs1))
    clear hb2 C2 hx1
    cases r2 with
    | false =>
      obtain rfl : ok = false := by rw [← hok.out]; unfold mkOk; rw [H1.out, H2.out]; rfl
      obtain rfl : g = [] := by rw [← hg.out, mkV_no hok.out]
      obtain ⟨d1, z1⟩ := hx2
      have B4 := Lib.hid (HB2.out.setCell (p := ⟨w.heap.size, 0, none⟩) (Nat.le_refl _) (.slice none 0 0))
      have hcr := World.cell?_setCell_same w2 ⟨w.heap.size, 0, none⟩ (.slice none 0 0) d1
      go_wp2_with fail
      exact bodyPost_ret (v := .tuple #[.agg #[.slice none 0 0], .bool false]) (by simp [results, Try.results19, go_sem, hcr]) rfl ⟨none, 0, rfl, ⟨none, 0, rfl, by simp, fun j nd hj => by simp at hj⟩, B4.out⟩
    | true =>
      obtain ⟨n1, g1⟩ := alB_parts H1.out
      obtain ⟨n2, g2⟩ := alB_parts H2.out
      have hfok : fitsN (formM (mkD (Ls.map (fun f => f.map downN)) (Rs.map (fun f => f.map downN)))) = ok := by rw [← hok.out]; unfold mkOk; rw [H1.out, H2.out]; rfl
      have hs2 := HB2.out.size
      have hlt2 := block_of_cell hx2.1
      have CM := Lib.hid (l3Make_calls (.slice al Ls.length cl) (.slice ar Rs.length cr) (Ls.map (fun f => f.map downN)) (Rs.map (fun f => f.map downN)) w2 lo hi lo' hi' (by omega) (by omega) (by rw [forms_up g1]; exact HL.out w2 HB2.out) (by rw [forms_up g2]; exact HR.out w2 HB2.out) (forms_fit g1) (forms_fit g2) (by rw [List.length_map]; omega) (by rw [List.length_map]; omega))
      obtain ⟨M, hM⟩ : ∃ M, formM (mkD (Ls.map (fun f => f.map downN)) (Rs.map (fun f => f.map downN))) = M := ⟨_, rfl⟩
      have HG : Hid (ok = true → g = M.map upN) := Lib.hid (fun h => by rw [← hg.out, mkV_yes (by rw [hok.out]; exact h), hM])
      have HGN : Hid (ok = false → g = []) := Lib.hid (fun h => by rw [← hg.out, mkV_no (by rw [hok.out]; exact h)])
      rw [hM] at CM hfok
      have HFO : Hid (fitsB (M.map upN) = ok) := Lib.hid (by rw [← fitsN_B]; exact hfok)
      clear hM hfok hok hg g1 g2
      go_wp2_with fail
      refine CM.out.mono ?_
      rintro e w3 ⟨v, rfl, hn3, hb3⟩
      have hx3 := hx2.below hb3
      have HB3 := Lib.hid (HB2.out.trans (hb3.mono hs2))
      have HN3 := Lib.hid hn3
      have C3 := Lib.hid (l3If_calls v (M.map upN) ok HFO w3 w2.heap.size w3.heap.size (Nat.le_refl _) hn3)
      have hs3 := hb3.size
      obtain ⟨av, nv, cv, rfl⟩ : ∃ a n c, v = .slice a n c := by obtain ⟨a, c, e, _⟩ := hn3; exact ⟨a, _, c, e⟩
      clear hn3 hb3 CM hx2
      go_wp2_with fail
      refine C3.out.mono ?_
      rintro e w4 ⟨rfl, hb4⟩
      obtain ⟨d4, z4⟩ := hx3.below hb4
      have hlt := block_of_cell hx3.1
      have HB4 := Lib.hid (HB3.out.trans (hb4.mono HB3.out.size))
      have HN4 := Lib.hid (HN3.out.below hb4 (Nat.le_refl _))
      have hs4 := hb4.size
      clear hb4 C3 hx3 HN3
      cases ok with
      | false =>
        obtain rfl := HGN.out rfl
        have B4 := Lib.hid (HB4.out.setCell (p := ⟨w.heap.size, 0, none⟩) (Nat.le_refl _) (.slice none 0 0))
        have hcr := World.cell?_setCell_same w4 ⟨w.heap.size, 0, none⟩ (.slice none 0 0) d4
        go_wp2_with fail
        exact bodyPost_ret (v := .tuple #[.agg #[.slice none 0 0], .bool false]) (by simp [results, Try.results19, go_sem, hcr]) rfl ⟨none, 0, rfl, ⟨none, 0, rfl, by simp, fun j nd hj => by simp at hj⟩, B4.out⟩
      | true =>
        have hgM := HG.out rfl
        have HNL : Hid (nv = g.length) := Lib.hid (by rw [hgM]; obtain ⟨a, c, e, _⟩ := HN4.out; injection e)
        have B4 := Lib.hid (HB4.out.setCell (p := ⟨w.heap.size, 0, none⟩) (Nat.le_refl _) (.slice av nv cv))
        have HN : Hid (NodesZ (w4.setCell ⟨w.heap.size, 0, none⟩ (.slice av nv cv)) w.heap.size (w4.setCell ⟨w.heap.size, 0, none⟩ (.slice av nv cv)).heap.size (.slice av nv cv) g) := Lib.hid (by
          rw [hgM]
          exact ((NodesZ.keep HN4.out (fun b o h1 h2 => World.cell?_setCell_other _ _ _ _ (fun e => by injection e with e _ _; omega))).wide (by omega) (by simp; omega)))
        have hcr := World.cell?_setCell_same w4 ⟨w.heap.size, 0, none⟩ (.slice av nv cv) d4
        clear hgM HN4 HG HGN HFO
        go_wp2_with fail
        refine bodyPost_ret (v := .tuple #[.agg #[.slice av nv cv], .bool true]) (by simp [results, Try.results19, go_sem, hcr]) rfl ⟨av, cv, ?_, ?_, B4.out⟩
        · rw [← HNL.out]
        · rw [← HNL.out]; exact HN.out
end

section
set_option linter.unusedVariables false
set_option linter.unusedSimpArgs false

/-- the first nodes of a star -/
def starT (k : Nat) : List Nd := (List.range k).map fun j => (List.range j, List.range j)
theorem starT_len (k : Nat) : (starT k).length = k := by simp [starT]
theorem starT_succ (k : Nat) : starT (k + 1) = starT k ++ [(List.range k, List.range k)] := by simp [starT, List.range_succ]
theorem starT_at {k j : Nat} (h : j < k) : (starT k)[j]? = some (List.range j, List.range j) := by unfold starT; rw [List.getElem?_map, List.getElem?_range h]; rfl

/-- nodes of which each is born on the day of its number -/
def Line (P : List Nd) : Prop := ∀ (k : Nat) (nd : Nd), P[k]? = some nd → lastOf (fun x => x) nd = k

theorem line_born {P : List Nd} (h : Line P) (hu : Under P) : ∀ k, k < P.length → bOf P k = k := by
  have hb := births_bOf P hu
  intro k
  induction k using Nat.strongRecOn with
  | ind k ih =>
    intro hk
    obtain ⟨nd, hnd⟩ := lt_get hk
    rw [hb k nd hnd, lastOf_congr (bOf P) (fun x => x) nd (fun x hx => by
      have := hu k nd hnd x hx
      exact ih x this (by omega))]
    exact h k nd hnd

theorem line_rising {P : List Nd} (h : Line P) (hu : Under P) : RisingBy P (bOf P) := fun k x y hx hy => by
  left
  have h1 := get_lt hy
  rw [line_born h hu k (by omega), line_born h hu (k + 1) h1]
  omega

theorem line_snoc {P : List Nd} {nd : Nd} (h : Line P) (hn : lastOf (fun x => x) nd = P.length) : Line (P ++ [nd]) := fun k x hk => by
  rcases Nat.lt_or_ge k P.length with hlt | hge
  · rw [List.getElem?_append_left hlt] at hk
    exact h k x hk
  · rw [List.getElem?_append_right hge] at hk
    have h0 := get_lt hk
    simp at h0
    rw [show k - P.length = 0 from by omega] at hk
    simp only [List.getElem?_cons_zero, Option.some.injEq] at hk
    subst hk
    rw [hn]
    omega

theorem struct_snoc {P : List Nd} {nd : Nd} (h : Struct P) (h1 : nd.1.Pairwise (· < ·)) (h2 : nd.2.Pairwise (· < ·)) (h3 : ∀ x, x ∈ nd.1 ∨ x ∈ nd.2 → x < P.length) : Struct (P ++ [nd]) := fun k x hk => by
  rcases Nat.lt_or_ge k P.length with hlt | hge
  · rw [List.getElem?_append_left hlt] at hk
    exact h k x hk
  · rw [List.getElem?_append_right hge] at hk
    have h0 := get_lt hk
    simp at h0
    rw [show k - P.length = 0 from by omega] at hk
    simp only [List.getElem?_cons_zero, Option.some.injEq] at hk
    subst hk
    exact ⟨h1, h2, fun x hx => by have := h3 x hx; omega⟩

theorem used_snoc {P : List Nd} {nd : Nd} (h : Used P) (hn : 0 < P.length → P.length - 1 ∈ nd.1 ∨ P.length - 1 ∈ nd.2) : Used (P ++ [nd]) := fun i hi => by
  rw [List.length_append, List.length_singleton] at hi
  rcases Nat.lt_or_ge (i + 1) P.length with hlt | hge
  · obtain ⟨k, x, hk, hx⟩ := h i hlt
    exact ⟨k, x, by rw [List.getElem?_append_left (get_lt hk)]; exact hk, hx⟩
  · refine ⟨P.length, nd, by simp, ?_⟩
    rw [show i = P.length - 1 from by omega]
    exact hn (by omega)

/-- what is asked of nodes that are a good form, each born on its own day -/
structure LineF (P : List Nd) : Prop where
  line : Line P
  struct : Struct P
  used : Used P
  small : ∀ nd ∈ P, nd.1.length ≤ 24 ∧ nd.2.length ≤ 24
  first : P[0]? = some ([], [])

theorem LineF.pos {P : List Nd} (h : LineF P) : 0 < P.length := get_lt h.first

theorem LineF.snoc {P : List Nd} {nd : Nd} (h : LineF P) (hl : lastOf (fun x => x) nd = P.length) (h1 : nd.1.Pairwise (· < ·)) (h2 : nd.2.Pairwise (· < ·)) (h3 : ∀ x, x ∈ nd.1 ∨ x ∈ nd.2 → x < P.length) (h4 : P.length - 1 ∈ nd.1 ∨ P.length - 1 ∈ nd.2) (h5 : nd.1.length ≤ 24 ∧ nd.2.length ≤ 24) : LineF (P ++ [nd]) :=
  ⟨line_snoc h.line hl, struct_snoc h.struct h1 h2 h3, used_snoc h.used (fun _ => h4), fun x hx => by
    rcases List.mem_append.1 hx with hx | hx
    · exact h.small x hx
    · rw [List.mem_singleton] at hx; subst hx; exact h5, by rw [List.getElem?_append_left h.pos]; exact h.first⟩

theorem last_range (k : Nat) : lastOf (fun x => x) (List.range k, List.range k) = k := by
  refine Nat.le_antisymm (lastOf_le _ _ _ (fun x hx => by simpa using hx)) ?_
  cases k with
  | zero => exact Nat.zero_le _
  | succ k => exact lastOf_lt (fun x => x) (List.range (k + 1), List.range (k + 1)) k (Or.inl (List.mem_range.2 (Nat.lt_succ_self k)))

theorem range_asc (k : Nat) : (List.range k).Pairwise (· < ·) := List.pairwise_lt_range

theorem starT_good (k : Nat) (hk : k ≤ 24) : LineF (starT (k + 1)) := by
  induction k with
  | zero =>
    refine ⟨fun k nd hk => ?_, fun k nd hk => ?_, fun i hi => by rw [starT_len] at hi; omega, fun nd hnd => ?_, rfl⟩
    · have h0 := get_lt hk
      rw [starT_len] at h0
      rw [starT_at h0] at hk
      injection hk with hk
      subst hk
      exact last_range k
    · have h0 := get_lt hk
      rw [starT_len] at h0
      rw [starT_at h0] at hk
      injection hk with hk
      subst hk
      exact ⟨range_asc k, range_asc k, fun x hx => by simpa using hx⟩
    · simp [starT] at hnd
      subst hnd
      exact ⟨Nat.zero_le _, Nat.zero_le _⟩
  | succ k ih =>
    rw [starT_succ (k + 1)]
    have hl := starT_len (k + 1)
    refine (ih (by omega)).snoc (by rw [last_range, hl]) (range_asc _) (range_asc _) (fun x hx => by rw [hl]; simpa using hx) (Or.inl (by rw [hl]; simp)) ?_
    simp
    omega

/-- the nodes of ups and a star -/
def upD : Nat → Nat → List Nd
  | 0, s => starT (s + 1)
  | u + 1, s => if u = 0 ∧ s = 1 then starT 2 ++ [([0, 1], [0])] else upD u (s ^^^ 1) ++ [([0], [(upD u (s ^^^ 1)).length - 1])]

theorem upD_zero (s : Nat) : upD 0 s = starT (s + 1) := rfl
theorem upD_one : upD 1 1 = starT 2 ++ [([0, 1], [0])] := rfl
theorem upD_step (u s : Nat) (h : ¬ (u = 0 ∧ s = 1)) : upD (u + 1) s = upD u (s ^^^ 1) ++ [([0], [(upD u (s ^^^ 1)).length - 1])] := by
  rw [upD, if_neg h]

theorem xor_small {s : Nat} (h : s ≤ 15) : s ^^^ 1 ≤ 15 := by
  have := Nat.xor_lt_two_pow (n := 4) (x := s) (y := 1) (by omega) (by omega)
  omega

theorem last_up (m : Nat) (h : 0 < m) : lastOf (fun x => x) ([0], [m - 1]) = m := by
  unfold lastOf
  simp
  omega

theorem upD_good (u s : Nat) (hu : u ≤ 12) (hs : s ≤ 15) : LineF (upD u s) ∧ (upD u s).length ≤ u + 16 := by
  induction u generalizing s with
  | zero => exact ⟨starT_good s (by omega), by rw [upD_zero, starT_len]; omega⟩
  | succ u ih =>
    by_cases h : u = 0 ∧ s = 1
    · obtain ⟨rfl, rfl⟩ := h
      rw [upD_one]
      refine ⟨(starT_good 1 (by omega)).snoc (by decide) (by decide) (by decide) (fun x hx => by simp [starT_len] at hx ⊢; omega) (by rw [starT_len]; simp) (by decide), by simp [starT_len]⟩
    · rw [upD_step u s h]
      obtain ⟨h1, h2⟩ := ih (s ^^^ 1) (by omega) (xor_small hs)
      have hp := h1.pos
      refine ⟨h1.snoc (last_up _ hp) (by simp) (by simp) (fun x hx => ?_) (Or.inr (by simp)) (by simp), by simp; omega⟩
      simp at hx
      omega

theorem upD_starts (u s : Nat) (hu : u ≤ 12) (hs : s ≤ 15) : ∃ m, (upD u s).length = m + 1 := ⟨(upD u s).length - 1, by have := (upD_good u s hu hs).1.pos; omega⟩

/-- nodes that each fall to a node of nodes in order -/
theorem canon_via {P out : List Nd} {pl : Nat → Nat} (hu : Under P) (hs : Struct out) (hr : RisingBy out (bOf out)) (hn : ∀ (k : Nat) (nd : Nd), P[k]? = some nd → out[pl k]? = some (movd pl nd)) (hsur : ∀ i, i < out.length → ∃ k, k < P.length ∧ pl k = i) : Canon P (bOf P) (fun _ => True) out pl := by
  have hbP := births_bOf P hu
  have hbo := births_bOf out hs.under
  have hb : ∀ k, k < P.length → bOf out (pl k) = bOf P k := by
    intro k
    induction k using Nat.strongRecOn with
    | ind k ih =>
      intro hk
      obtain ⟨nd, hnd⟩ := lt_get hk
      rw [hbP k nd hnd, hbo (pl k) _ (hn k nd hnd)]
      exact lastOf_map (bOf P) (bOf out) pl nd (fun x hx => by
        have := hu k nd hnd x hx
        exact ih x this (by omega))
  have hp : ∀ k, k < P.length → pl k < out.length := fun k hk => by
    obtain ⟨nd, hnd⟩ := lt_get hk
    exact get_lt (hn k nd hnd)
  have hc := canon_of_rising hs hbo hr.rising
  refine ⟨fun k nd hk _ => hn k nd hk, fun i hi => ?_, fun k j hk hj _ _ h => ?_, fun k j x y hk hj _ _ h hx hy hl => ?_, fun k j hk hj _ _ h => ?_⟩
  · obtain ⟨k, h1, h2⟩ := hsur i hi
    exact ⟨k, h1, trivial, h2⟩
  · exact hc.born (pl k) (pl j) (hp k hk) (hp j hj) trivial trivial (by rw [hb k hk, hb j hj]; exact h)
  · exact hc.ahead (pl k) (pl j) x y (hp k hk) (hp j hj) trivial trivial (by rw [hb k hk, hb j hj]; exact h) hx hy hl
  · exact hc.once (pl k) (pl j) (hp k hk) (hp j hj) trivial trivial h

theorem LineF.rising {P : List Nd} (h : LineF P) : RisingBy P (bOf P) := line_rising h.line h.struct.under

theorem LineF.fit {P : List Nd} (h : LineF P) (hl : P.length ≤ 125) : Fit P := ⟨h.pos, hl, h.struct.under, h.used, h.small⟩

theorem LineF.goodB {P : List Nd} (h : LineF P) (hl : P.length ≤ 120) : goodB (P.map upN) = true := by
  refine (goodB_iff _).2 ⟨⟨by simpa using h.pos, by simpa using hl, fun nd hnd => ?_⟩, structZ_up h.struct, ?_, ?_⟩
  · obtain ⟨x, hx, rfl⟩ := List.mem_map.1 hnd
    have := h.small x hx
    simpa [upN, upL] using this
  · rw [down_up]; exact h.rising
  · rw [down_up]; exact h.used

def zeroD : List Nd := [([], [])]
theorem zeroD_star : zeroD = starT 1 := rfl
theorem zero_fit : Fit zeroD := (starT_good 0 (by omega)).fit (by decide)

/-- the model's up on a game -/
theorem up_make {f : List Nd} (h : LineF f) (hl : f.length ≤ 100) : formM (mkD [zeroD] [f]) = f ++ [([0], [f.length - 1])] := by
  have hp := h.pos
  have hg : LineF (f ++ [([0], [f.length - 1])]) := h.snoc (last_up _ hp) (by simp) (by simp) (fun x hx => by simp at hx; omega) (Or.inr (by simp)) (by simp)
  have e : mkD [zeroD] [f] = [([], [])] ++ shD 1 f ++ [([0], [f.length])] := by
    have e1 : stkL [] [zeroD] = ([([], [])], [0]) := by simp [stkL, stk, zeroD, shD]
    unfold mkD
    rw [e1]
    have e2 : stkL [([], [])] [f] = ([([], [])] ++ shD 1 f, [1 + f.length - 1]) := by simp [stkL, stk]
    rw [e2]
    dsimp only
    rw [show 1 + f.length - 1 = f.length from by omega]
  have hfz : ∀ g ∈ [zeroD], Fit g := fun g hg => by simp at hg; subst hg; exact zero_fit
  have hff : ∀ g ∈ [f], Fit g := fun g hg => by simp at hg; subst hg; exact h.fit (by omega)
  have hu := mkD_under hfz hff
  have hlen : (mkD [zeroD] [f]).length = f.length + 2 := by rw [e]; simp only [List.length_append, shD_len, List.length_singleton]; omega
  refine (order_is hu (by omega) (mkD_reach hfz hff) (canon_via (pl := fun k => k - 1) hu hg.struct hg.rising (fun k nd hk => ?_) (fun i hi => ?_))).symm
  · rw [e] at hk
    rcases Nat.lt_or_ge k (f.length + 1) with hlt | hge
    · rw [List.getElem?_append_left (by simp [shD_len]; omega)] at hk
      cases k with
      | zero =>
        simp at hk
        subst hk
        rw [List.getElem?_append_left (by simpa using hp)]
        exact h.first
      | succ k =>
        simp at hk
        obtain ⟨x, hx, rfl⟩ := shD_get hk
        rw [show k + 1 - 1 = k from by omega, List.getElem?_append_left (get_lt hx), hx]
        have hid := movd_id h.struct hx
        unfold movd at hid ⊢
        simp only [List.map_map, Function.comp_def, Nat.add_sub_cancel]
        rw [← hid]
        simp only [List.map_id']
        rw [sortd_id _ (sortd_asc _), sortd_id _ (sortd_asc _)]
    · rw [List.getElem?_append_right (by simp [shD_len]; omega)] at hk
      have h0 := get_lt hk
      simp [shD_len] at h0
      have hk0 : k = f.length + 1 := by omega
      subst hk0
      simp [shD_len] at hk
      subst hk
      rw [show f.length + 1 - 1 = f.length from by omega]
      simp [movd, sortd, putN]
  · refine ⟨i + 1, ?_, by omega⟩
    rw [hlen]
    simp at hi
    omega

theorem up_star : formM (mkD [zeroD, starT 2] [zeroD]) = starT 2 ++ [([0, 1], [0])] := by decide

theorem up_next (u s : Nat) (hu : u + 1 ≤ 12) (hs : s ≤ 15) (h : ¬ (u = 0 ∧ s = 1)) : formM (mkD [zeroD] [upD u (s ^^^ 1)]) = upD (u + 1) s := by
  obtain ⟨h1, h2⟩ := upD_good u (s ^^^ 1) (by omega) (xor_small hs)
  rw [up_make h1 (by omega), upD_step u s h]
end

section
open Go.RowKit
set_option linter.unusedVariables false
set_option linter.unusedSimpArgs false

/-- a list of numbers that lies apart from some blocks -/
def IntsV (w : World) (X : Nat → Prop) (u : Value) (l : List Int) : Prop := ∃ lo hi, hi ≤ w.heap.size ∧ (∀ g, X g → g < lo ∨ hi ≤ g) ∧ IntsZ w lo hi u l

theorem IntsV.only {w w' : World} {X F : Nat → Prop} {u : Value} {l : List Int} (h : IntsV w X u l) (ho : Only w w' F) (hF : ∀ g, g < w.heap.size → F g → X g) : IntsV w' X u l := by
  obtain ⟨lo, hi, h1, h2, h3⟩ := h
  exact ⟨lo, hi, Nat.le_trans h1 ho.size, h2, h3.keep (fun b o e1 e2 => ho.cell (by omega) (fun e => by have := h2 b (hF b (by omega) e); omega))⟩
theorem IntsV.below {w w' : World} {X : Nat → Prop} {u : Value} {l : List Int} (h : IntsV w X u l) (hb : Below w.heap.size w w') : IntsV w' X u l := h.only (Only.of_below (F := fun _ => False) hb) (fun _ _ h => h.elim)
theorem IntsV.reX {w : World} {X Y : Nat → Prop} {u : Value} {l : List Int} (h : IntsV w X u l) (hY : ∀ g, g < w.heap.size → Y g → X g) : IntsV w Y u l := by
  obtain ⟨lo, hi, h1, h2, h3⟩ := h
  refine ⟨lo, hi, h1, fun g hg => ?_, h3⟩
  rcases Nat.lt_or_ge g w.heap.size with h4 | h4
  · exact h2 g (hY g h4 hg)
  · right; omega
theorem IntsV.ints {w : World} {X : Nat → Prop} {u : Value} {l : List Int} (h : IntsV w X u l) : IntsZ w 0 w.heap.size u l := by
  obtain ⟨lo, hi, h1, h2, h3⟩ := h
  exact h3.wide (Nat.zero_le _) h1
theorem IntsV.one {w : World} {X : Nat → Prop} {u : Value} {l : List Int} (h : IntsV w X u l) : u.oneCell' = true := by
  obtain ⟨_, _, _, _, ao, c, rfl, _⟩ := h
  rfl

/-- the blocks that a pile's lists lie apart from -/
def PX (v : Value) (X : Nat → Prop) (g : Nat) : Prop := v.ownBlock = some g ∨ X g

structure PileZ (w : World) (base : Nat) (v : Value) (vs : List (Value × Value)) (F : List Nz) (X : Nat → Prop) : Prop where
  row : w.ownsRow base 73 2 v F.length (rowN2 vs)
  len : vs.length = F.length
  list : ∀ (j : Nat) (nd : Nz) (p : Value × Value), F[j]? = some nd → vs[j]? = some p → IntsV w (PX v X) p.1 nd.1 ∧ IntsV w (PX v X) p.2 nd.2

theorem PileZ.lt {w : World} {base : Nat} {v : Value} {vs : List (Value × Value)} {F : List Nz} {X : Nat → Prop} (h : PileZ w base v vs F X) : ∀ g, v.ownBlock = some g → base ≤ g ∧ g < w.heap.size := World.ownsRow.lt h.row
theorem PileZ.below {w w' : World} {base : Nat} {v : Value} {vs : List (Value × Value)} {F : List Nz} {X : Nat → Prop} (h : PileZ w base v vs F X) (hb : Below w.heap.size w w') : PileZ w' base v vs F X :=
  ⟨own_only h.row (Only.of_below (F := fun _ => False) hb) (fun _ _ => id), h.len, fun j nd p h1 h2 => ⟨(h.list j nd p h1 h2).1.below hb, (h.list j nd p h1 h2).2.below hb⟩⟩
theorem PileZ.only {w w' : World} {base : Nat} {v : Value} {vs : List (Value × Value)} {F : List Nz} {X : Nat → Prop} (h : PileZ w base v vs F X) (ho : Only w w' X) (hd : ∀ g, v.ownBlock = some g → ¬ X g) : PileZ w' base v vs F X :=
  ⟨own_only h.row ho hd, h.len, fun j nd p h1 h2 => ⟨(h.list j nd p h1 h2).1.only ho (fun _ _ e => Or.inr e), (h.list j nd p h1 h2).2.only ho (fun _ _ e => Or.inr e)⟩⟩
theorem PileZ.reX {w : World} {base : Nat} {v : Value} {vs : List (Value × Value)} {F : List Nz} {X Y : Nat → Prop} (h : PileZ w base v vs F X) (hY : ∀ g, g < w.heap.size → Y g → X g) : PileZ w base v vs F Y :=
  ⟨h.row, h.len, fun j nd p h1 h2 => ⟨(h.list j nd p h1 h2).1.reX (fun g hg e => e.imp id (hY g hg)), (h.list j nd p h1 h2).2.reX (fun g hg e => e.imp id (hY g hg))⟩⟩
theorem PileZ.mono {w : World} {base base' : Nat} {v : Value} {vs : List (Value × Value)} {F : List Nz} {X : Nat → Prop} (h : PileZ w base v vs F X) (hb : base' ≤ base) : PileZ w base' v vs F X := ⟨World.ownsRow.mono h.row hb, h.len, h.list⟩
theorem PileZ.nil (w : World) (base : Nat) (X : Nat → Prop) : PileZ w base (.slice none 0 0) [] [] X := ⟨World.ownsRow_nil _ _ _ _, rfl, fun j nd p h => by simp at h⟩
theorem PileZ.shape {w : World} {base : Nat} {v : Value} {vs : List (Value × Value)} {F : List Nz} {X : Nat → Prop} (h : PileZ w base v vs F X) : ∃ a c, v = .slice a F.length c := by
  rcases h.row.2 with ⟨h1, h0⟩ | ⟨g, c, cs, h1, _⟩
  · exact ⟨none, 0, by rw [h1, h0]⟩
  · exact ⟨_, _, h1⟩

theorem PileZ.snoc {w w' : World} {base : Nat} {v v' : Value} {vs : List (Value × Value)} {F : List Nz} {X : Nat → Prop} {p : Value × Value} {nd : Nz} (h : PileZ w base v vs F X) (hg : w.grownBy w' v.ownBlock)
    (hn : w'.ownsRow base 73 2 v' (F.length + 1) (rowN2 vs ++ [p.1, p.2])) (hat : v'.ownBlock = v.ownBlock ∨ v'.ownBlock = some w.heap.size) (h1 : IntsV w (PX v X) p.1 nd.1) (h2 : IntsV w (PX v X) p.2 nd.2) : PileZ w' base v' (vs ++ [p]) (F ++ [nd]) X := by
  have ho : Only w w' (fun b => v.ownBlock = some b) := Only.of_grown hg (fun g e => e)
  have go : ∀ {u : Value} {l : List Int}, IntsV w (PX v X) u l → IntsV w' (PX v' X) u l := fun hi => by
    have h0 : IntsV w (PX v' X) _ _ := hi.reX (Y := PX v' X) (fun g hg e => by
      rcases e with e | e
      · rcases hat with e2 | e2
        · exact Or.inl (e2 ▸ e)
        · rw [e2] at e; injection e with e; omega
      · exact Or.inr e)
    obtain ⟨lo, hi', a1, a2, a3⟩ := hi
    refine ⟨lo, hi', Nat.le_trans a1 hg.size, fun g e => ?_, a3.keep (fun b o e1 e2 => ho.cell (by omega) (fun e => by have := a2 b (Or.inl e); omega))⟩
    rcases e with e | e
    · rcases hat with e2 | e2
      · exact a2 g (Or.inl (e2 ▸ e))
      · rw [e2] at e; injection e with e; omega
    · exact a2 g (Or.inr e)
  refine ⟨by rw [rowN2_snoc, List.length_append]; exact hn, by simp [h.len], fun j n0 q hj hq => ?_⟩
  rcases get_snoc hj with hj1 | ⟨ej, rfl⟩
  · rcases get_snoc hq with hq1 | ⟨eq, _⟩
    · have hl := h.list j n0 q hj1 hq1
      exact ⟨go hl.1, go hl.2⟩
    · exfalso
      have := get_lt hj1
      have := h.len
      omega
  · rcases get_snoc hq with hq1 | ⟨_, eq⟩
    · exfalso
      have := get_lt hq1
      have := h.len
      omega
    · rw [eq]
      exact ⟨go h1, go h2⟩

/-- a list made later lies apart from what was there -/
theorem intsV_own {w w1 w' : World} {base base1 : Nat} {q u : Value} {vs : List (Value × Value)} {F : List Nz} {X : Nat → Prop} {l : List Int} (hq : PileZ w base q vs F X) (hX : ∀ g, X g → g < w.heap.size) (ho : OwnI w1 base1 u l) (h1 : w.heap.size ≤ base1) (hb : Below w1.heap.size w1 w') : IntsV w' (PX q X) u l :=
  ⟨base1, w1.heap.size, hb.size, fun g e => Or.inl (by
    rcases e with e | e
    · have := (hq.lt g e).2; omega
    · have := hX g e; omega), ho.ints.below hb (Nat.le_refl _)⟩

theorem PileZ.nodesZ {w : World} {base : Nat} {v : Value} {vs : List (Value × Value)} {F : List Nz} {X : Nat → Prop} (h : PileZ w base v vs F X) : NodesZ w 0 w.heap.size v F := by
  rcases h.row.2 with ⟨h1, h0⟩ | ⟨g, c, cs, h1, _⟩
  · have hl : F = [] := List.length_eq_zero_iff.1 h0
    subst hl
    exact ⟨none, 0, by rw [h1]; rfl, by simp, fun j nd hj => by simp at hj⟩
  · subst h1
    have hn := h.row
    have hlt := World.ownsRow.lt hn _ rfl
    refine ⟨_, c, rfl, World.ownsRow.caps hn, fun j nd hj => ?_⟩
    have hjl := get_lt hj
    obtain ⟨p, hp⟩ := lt_get (l := vs) (i := j) (by rw [h.len]; exact hjl)
    have hr := rowN2_at vs j p hp
    obtain ⟨i1, i2⟩ := h.list j nd p hj hp
    refine ⟨g, 0, p.1, p.2, rfl, Nat.zero_le _, hlt.2, ?_, ?_, i1.ints, i2.ints⟩
    · rw [Nat.zero_add, World.ownsRow.cellAt hn (j * 2) (by omega)]; exact hr.1
    · rw [Nat.zero_add, World.ownsRow.cellAt hn (j * 2 + 1) (by omega)]; exact hr.2

/-- where the lists lie -/
theorem IntsV.low {w : World} {X : Nat → Prop} {u : Value} {l : List Int} {m : Nat} (h : IntsV w X u l) (hX : ∀ g, g < m → X g) : IntsZ w m w.heap.size u l := by
  obtain ⟨lo, hi, h1, h2, ao, c, e, h3, h4⟩ := h
  refine ⟨ao, c, e, h3, fun j x hx => ?_⟩
  obtain ⟨b, off, e1, e2, e3, e4⟩ := h4 j x hx
  refine ⟨b, off, e1, ?_, by omega, e4⟩
  rcases Nat.lt_or_ge b m with h5 | h5
  · have := h2 b (hX b h5); omega
  · exact h5
theorem PileZ.nodesL {w : World} {base m : Nat} {v : Value} {vs : List (Value × Value)} {F : List Nz} {X : Nat → Prop} (h : PileZ w base v vs F X) (hm : m ≤ base) (hX : ∀ g, g < m → X g) : NodesZ w m w.heap.size v F := by
  rcases h.row.2 with ⟨h1, h0⟩ | ⟨g, c, cs, h1, _⟩
  · have hl : F = [] := List.length_eq_zero_iff.1 h0
    subst hl
    exact ⟨none, 0, by rw [h1]; rfl, by simp, fun j nd hj => by simp at hj⟩
  · subst h1
    have hn := h.row
    have hlt := World.ownsRow.lt hn _ rfl
    refine ⟨_, c, rfl, World.ownsRow.caps hn, fun j nd hj => ?_⟩
    have hjl := get_lt hj
    obtain ⟨p, hp⟩ := lt_get (l := vs) (i := j) (by rw [h.len]; exact hjl)
    have hr := rowN2_at vs j p hp
    obtain ⟨i1, i2⟩ := h.list j nd p hj hp
    refine ⟨g, 0, p.1, p.2, rfl, Nat.le_trans hm hlt.1, hlt.2, ?_, ?_, i1.low (fun g hg => Or.inr (hX g hg)), i2.low (fun g hg => Or.inr (hX g hg))⟩
    · rw [Nat.zero_add, World.ownsRow.cellAt hn (j * 2) (by omega)]; exact hr.1
    · rw [Nat.zero_add, World.ownsRow.cellAt hn (j * 2 + 1) (by omega)]; exact hr.2

theorem shift_wrap (x m : Nat) (h : x + m ≤ 1000000) : IntKind.i64.wrap ((x : Int) + (m : Int)) = ((x + m : Nat) : Int) := by
  rw [← Int.natCast_add]
  exact IntWalk.i64_in _ (by omega)

/-- the shifted numbers so far, and zeros -/
def shiftP (l : List Nat) (m k : Nat) : List Int := upL ((l.take k).map (· + m)) ++ List.replicate (l.length - k) 0
theorem shiftP_len (l : List Nat) (m k : Nat) (h : k ≤ l.length) : (shiftP l m k).length = l.length := by unfold shiftP upL; simp; omega
theorem shiftP_set (l : List Nat) (m k x : Nat) (h : l[k]? = some x) : (shiftP l m k).set k ((x + m : Nat) : Int) = shiftP l m (k + 1) := by
  have hk := get_lt h
  unfold shiftP
  have e1 : (upL ((l.take k).map (· + m))).length = k := by unfold upL; simp; omega
  rw [List.set_append_right _ _ (by rw [e1]; exact Nat.le_refl _), e1, Nat.sub_self, show l.length - k = (l.length - (k + 1)) + 1 from by omega, List.replicate_succ, List.set_cons_zero, List.take_add_one, h, List.map_append]
  unfold upL
  simp
theorem shiftP_all (l : List Nat) (m : Nat) : shiftP l m l.length = upL (l.map (· + m)) := by simp [shiftP]

set_option maxRecDepth 100000 in
set_option maxHeartbeats 1000000 in
theorem shifted_calls (v : Value) (l : List Nat) (m : Nat) (w : World) (lo hi : Nat) (hh : hi ≤ w.heap.size) (hv : IntsZ w lo hi v (upL l)) (hl : l.length ≤ 1000) (hx : ∀ x ∈ l, x + m ≤ 1000000) :
    Calls Try.prog 63 #[v, .int .i64 m] w fun e w' => ∃ g, e = .returned (.slice (some ⟨g, 0, none⟩) l.length l.length) ∧ OwnI w' w.heap.size (.slice (some ⟨g, 0, none⟩) l.length l.length) (upL (l.map (· + m))) ∧ Below w.heap.size w w' := by
  obtain ⟨i0, hi0, hz0, hz1, hz2⟩ := info_parts infoIntA
  obtain ⟨at', ct, rfl, hct⟩ := ints_lenP hv
  have HV := Lib.hid hv
  have HX := Lib.hid hx
  clear hv hx
  go_enter Try.func63, Try.ntmps63
  go_wp2_with (at_make; refine wpList_make_full _ rfl _ _ 53 rfl w.heap.size 3 i0 (.int .i64 0) 1 Try.underlying53 hi0 hz0 hz1 _ _ _ _ l.length rfl rfl rfl rfl (by rw [hz2]; omega) (by unfold maxLen; omega) (Nat.le_refl _) ?_; intro w1 hown hg)
  have HO : Hid (OwnI w1 w.heap.size (.slice (some ⟨w.heap.size, 0, none⟩) l.length l.length) (shiftP l m 0)) := Lib.hid (by
    have e : (madeCells (Value.int .i64 0).cells (l.length * 1)).toList = List.replicate l.length (.int .i64 0) := by
      show (madeCells #[Value.int .i64 0] (l.length * 1)).toList = _
      rw [Nat.mul_one, made_one]
    rw [e] at hown
    unfold OwnI
    rw [shiftP_len l m 0 (Nat.zero_le _)]
    simpa [shiftP, upL] using hown)
  have HB : Hid (Below w.heap.size w w1) := Lib.hid ((Below.refl _ _).grown hg (Nat.le_refl _) (fun k hk => by cases hk))
  clear hown hg
  go_wp2
  go_loopw [13] (fun i wr => ∃ k : Nat, k ≤ l.length ∧ i = .int .i64 k ∧ Hid (OwnI wr w.heap.size (.slice (some ⟨w.heap.size, 0, none⟩) l.length l.length) (shiftP l m k)) ∧ Hid (Below w.heap.size w wr)) (fun i _ => l.length - (intOf i).toNat)
  case atStart => exact ⟨0, Nat.zero_le _, rfl, HO, HB⟩
  case round =>
    obtain ⟨k, hk, rfl, ho, hb⟩ := hrel
    clear HO HB
    by_cases hlt : k < l.length
    · obtain ⟨x, hx⟩ := lt_get hlt
      obtain ⟨b1, o1, rfl, _, q1⟩ := ints_atP (HV.out.below hb.out hh) hx
      have hxm := HX.out x (List.mem_of_getElem? hx)
      have hwr := shift_wrap x m hxm
      obtain ⟨y, hy⟩ := lt_get (l := shiftP l m k) (i := k) (by rw [shiftP_len l m k hk]; exact hlt)
      have hat := ho.out.at_ hy
      have hput := (ho.out.put (x := k) (v := ((x + m : Nat) : Int)))
      rw [shiftP_set l m k x hx] at hput
      obtain ⟨qc, qf⟩ := hat
      have R1 := Lib.hid hput.1
      have R2 : Hid (Below w.heap.size w (wr.setCell ⟨w.heap.size, k, none⟩ (.int .i64 ((x + m : Nat) : Int)))) := Lib.hid (hb.out.setCell (Nat.le_refl _) _)
      have k0 : (0 : Int) ≤ k := by omega
      have k1 : (k : Int) < l.length := by omega
      clear hput ho hb hx hy
      go_wp2
      go_roundw
      case rel => exact ⟨k + 1, by omega, by go_num, R1, R2⟩
      case measure => first | (simp [intOf]; done) | (simp [intOf]; omega)
    · have hke : k = l.length := by omega
      subst hke
      have HF : Hid (OwnI wr w.heap.size (.slice (some ⟨w.heap.size, 0, none⟩) l.length l.length) (upL (l.map (· + m)))) := Lib.hid (by have h := ho.out; rw [shiftP_all] at h; exact h)
      clear ho
      go_wp2
      go_ret
      exact ⟨_, rfl, HF.out, hb.out⟩
end

section
set_option linter.unusedVariables false
set_option linter.unusedSimpArgs false
open Go.RowKit

theorem goodI_resQ (v : Value) (f : List Nz) (r : Bool) (hr : Hid (goodB f = r)) (w : World) (lo hi : Nat) (hh : hi ≤ w.heap.size) (hv : NodesZ w lo hi v f) :
    Calls Try.prog 85 #[.agg #[v]] w fun e w' => e = .returned (.bool r) ∧ Below w.heap.size w w' := by
  rw [← hr.out]
  exact goodI_calls v f w lo hi hh hv

theorem fit_of_good {f : List Nz} (h : goodB f = true) : Fit (f.map downN) := by
  obtain ⟨h1, h2, h3, h4⟩ := (goodB_iff f).1 h
  refine ⟨by simpa using h1.1, by have := h1.2.1; simp; omega, h2.up.2.under, h4, fun nd hnd => ?_⟩
  obtain ⟨x, hx, rfl⟩ := List.mem_map.1 hnd
  have := h1.2.2 x hx
  simpa [downN, downL] using this
theorem up_of_good {f : List Nz} (h : goodB f = true) : (f.map downN).map upN = f := ((goodB_iff f).1 h).2.1.up.1

/-- a node's box -/
theorem pairN_only {b : Nat} {v1 v2 : Value} {W w1 : World} {F : Nat → Prop} (ho : Only W w1 F) (n : ¬ F b) (h : W.cell? ⟨b, 0, none⟩ = some v1 ∧ W.cell? ⟨b, 1, none⟩ = some v2) : w1.cell? ⟨b, 0, none⟩ = some v1 ∧ w1.cell? ⟨b, 1, none⟩ = some v2 :=
  ⟨(ho.cell (block_of_cell h.1) n).trans h.1, (ho.cell (block_of_cell h.2) n).trans h.2⟩
theorem pairN_below {b : Nat} {v1 v2 : Value} {W w1 : World} (hb : Below W.heap.size W w1) (h : W.cell? ⟨b, 0, none⟩ = some v1 ∧ W.cell? ⟨b, 1, none⟩ = some v2) : w1.cell? ⟨b, 0, none⟩ = some v1 ∧ w1.cell? ⟨b, 1, none⟩ = some v2 :=
  pairN_only (F := fun _ => False) (Only.of_below hb) id h

def StkPost (w : World) (base : Nat) (v0 : Value) (Pd : List Nd) (D : List (List Nd)) (ok : Bool) (e : Ending) (w' : World) : Prop :=
  Only w w' (fun b => v0.ownBlock = some b) ∧ ∃ pa pn pc ta tn tc, e = .returned (.tuple #[.slice pa pn pc, .slice ta tn tc, .bool ok]) ∧
    (ok = true → pn = (stkL Pd D).1.length ∧ tn = D.length ∧ (∃ vs, PileZ w' base (.slice pa pn pc) vs ((stkL Pd D).1.map upN) (fun g => (Value.slice ta tn tc).ownBlock = some g)) ∧ OwnI w' w.heap.size (.slice ta tn tc) (upL (stkL Pd D).2) ∧ Apart (.slice pa pn pc) (.slice ta tn tc) ∧
      ∀ g, (Value.slice pa pn pc).ownBlock = some g → g < w.heap.size → v0.ownBlock = some g)

theorem shD_take_snoc {n m : Nat} {f : List Nd} {nd : Nd} (h : f[m]? = some nd) : shD n (f.take (m + 1)) = shD n (f.take m) ++ [(nd.1.map (· + n), nd.2.map (· + n))] := by
  rw [List.take_add_one, h]
  exact shD_snoc _ _ _

theorem len_less (n : Nat) (h0 : 0 < n) (h : n ≤ 1000000) : IntKind.i64.wrap ((n : Int) - 1) = ((n - 1 : Nat) : Int) := by
  rw [show (n : Int) - 1 = ((n - 1 : Nat) : Int) from by omega]
  exact IntWalk.i64_in _ (by omega)

set_option maxRecDepth 100000 in
set_option maxHeartbeats 8000000 in
theorem stacked_calls (v0 : Value) (vs0 : List (Value × Value)) (Pd : List Nd) (X0 : Nat → Prop) (vg : Value) (Fs : List (List Nz)) (ok : Bool) (hok : Hid (Fs.all goodB = ok)) (w : World) (base lo hi : Nat) (hbase : base ≤ w.heap.size) (hP : PileZ w base v0 vs0 (Pd.map upN) X0) (hg : FormsZ w lo hi vg Fs) (hhi : hi ≤ base) (hl : Fs.length ≤ 100) (hPl : Pd.length ≤ 12500) :
    Calls Try.prog 50 #[v0, vg] w (StkPost w base v0 Pd (Fs.map (fun f => f.map downN)) ok) := by
  obtain ⟨iN, hiN, hzN0, hzN1, hzN2⟩ := info_parts infoIntA
  have HG0 := Lib.hid hg
  obtain ⟨ag, cg, hvg⟩ : ∃ a c, vg = .slice a Fs.length c := by obtain ⟨a, c, e, _⟩ := hg; exact ⟨a, c, e⟩
  subst hvg
  obtain ⟨a0, c0, hv0⟩ := hP.shape
  rw [List.length_map] at hv0
  subst hv0
  have HP0 : Hid (PileZ w base (.slice a0 Pd.length c0) vs0 ((stkL Pd []).1.map upN) (fun g => (Value.slice none 0 0).ownBlock = some g)) := Lib.hid (hP.reX (fun g _ e => by simp [Value.ownBlock] at e))
  obtain ⟨D, hD⟩ : ∃ D, Fs.map (fun f => f.map downN) = D := ⟨_, rfl⟩
  have HDL : Hid (D.length = Fs.length) := Lib.hid (by rw [← hD, List.length_map])
  have HDA : Hid (∀ (k : Nat) (f : List Nz), Fs[k]? = some f → D[k]? = some (f.map downN)) := Lib.hid (fun k f h => by rw [← hD, List.getElem?_map, h]; rfl)
  have HQ : Hid (∀ k, k ≤ Fs.length → (∀ f ∈ Fs.take k, goodB f = true) → (stkL Pd (D.take k)).1.length ≤ 25000 ∧ (stkL Pd (D.take k)).2.length = k) := Lib.hid (fun k hk hgd => by
    have h1 := stkL_len Pd (D.take k) (fun f hf => by
      rw [← hD, ← List.map_take] at hf
      obtain ⟨x, hx, rfl⟩ := List.mem_map.1 hf
      exact (fit_of_good (hgd x hx)).most)
    have h2 := stkL_tops Pd (D.take k)
    have h3 : (D.take k).length = k := by rw [List.length_take, ← hD, List.length_map]; omega
    rw [h3] at h1 h2
    omega)
  have HLT := Lib.hid hP.lt
  have HD := Lib.hid hD
  rw [hD]
  clear hP hg hD X0
  go_enter Try.func50, Try.ntmps50
  go_wp2
  go_loopw [0, 7, 15] (fun q t i wr => ∃ (k : Nat) (a : Option Addr) (c : Nat) (vs : List (Value × Value)) (ta : Option Addr) (tc : Nat), k ≤ Fs.length ∧ i = .int .i64 k ∧ q = .slice a (stkL Pd (D.take k)).1.length c ∧ t = .slice ta k tc ∧ Hid (∀ f ∈ Fs.take k, goodB f = true) ∧
      Hid (PileZ wr base (.slice a (stkL Pd (D.take k)).1.length c) vs ((stkL Pd (D.take k)).1.map upN) (fun g => (Value.slice ta k tc).ownBlock = some g)) ∧ Hid (OwnI wr w.heap.size (.slice ta k tc) (upL (stkL Pd (D.take k)).2)) ∧ Hid (Apart (.slice a (stkL Pd (D.take k)).1.length c) (.slice ta k tc)) ∧
      Hid (Only w wr (fun b => (Value.slice a0 Pd.length c0).ownBlock = some b)) ∧ Hid (∀ g, (Value.slice a (stkL Pd (D.take k)).1.length c).ownBlock = some g → g < w.heap.size → (Value.slice a0 Pd.length c0).ownBlock = some g)) (fun _ _ i _ => Fs.length - (intOf i).toNat)
  case atStart =>
    refine ⟨0, a0, c0, vs0, none, 0, Nat.zero_le _, rfl, by rw [List.take_zero]; rfl, rfl, Lib.hid (fun f hf => by simp at hf), ?_, ?_, ?_, Lib.hid (Only.refl _ _), ?_⟩
    · rw [List.take_zero]; exact HP0
    · rw [List.take_zero]; exact Lib.hid (OwnI.nil _ _)
    · exact Lib.hid (fun g h e => by simp [Value.ownBlock] at e)
    · rw [List.take_zero]; exact Lib.hid (fun g h _ => h)
  case round =>
    obtain ⟨k, a, c, vs, ta, tc, hk, rfl, rfl, rfl, hgd, hpile, htops, hap, hon, hnw⟩ := hrel
    clear HP0
    obtain ⟨hQl, hTl⟩ := HQ.out k hk hgd.out
    obtain ⟨Q, hQ⟩ : ∃ Q, (stkL Pd (D.take k)).1 = Q := ⟨_, rfl⟩
    obtain ⟨T, hT⟩ : ∃ T, (stkL Pd (D.take k)).2 = T := ⟨_, rfl⟩
    have HSK : Hid (stkL Pd (D.take k) = (Q, T)) := Lib.hid (by rw [← hQ, ← hT])
    rw [hQ] at hpile hap hnw hQl ⊢
    rw [hT] at htops hTl
    have HTL := Lib.hid hTl
    clear hQ hT hTl
    by_cases hlt : k < Fs.length
    · obtain ⟨f, hf⟩ := lt_get hlt
      have hbw : Below base w wr := hon.out.below hbase (fun g e => (HLT.out g e).1)
      obtain ⟨ao1, c1, e1, _, hn⟩ := HG0.out
      obtain ⟨b, off, vf, rfl, _, hbh, p0, i0⟩ := hn k f hf
      obtain ⟨q1, q2, q3⟩ := slice_inj e1
      subst q1 q3
      clear q2 hn e1
      have p1 := (bcell hbw b (off + k) (by omega)).trans p0
      obtain ⟨af, cf, hvf⟩ : ∃ a c, vf = .slice a f.length c := by obtain ⟨a, c, e, _⟩ := i0; exact ⟨a, c, e⟩
      subst hvf
      obtain ⟨r, hr⟩ : ∃ r, goodB f = r := ⟨_, rfl⟩
      have hsz := hon.out.size
      have hal : Below wr.heap.size wr (wr.alloc (.cells #[.slice af f.length cf] 24)) := (Below.refl _ _).alloc (Nat.le_refl _) _
      have CG := Lib.hid (goodI_resQ (.slice af f.length cf) f r (Lib.hid hr) _ lo hi (by have := hal.size; omega) ((i0.below hbw hhi).below hal (by omega)))
      have HF := Lib.hid hf
      have HI0 := Lib.hid i0
      have HR := Lib.hid hr
      have HBW := Lib.hid hbw
      have HAL := Lib.hid hal
      have k0 : (0 : Int) ≤ k := by omega
      have k1 : (k : Int) < Fs.length := by omega
      clear hf i0 hr hbw hal p0
      go_wp2_with fail
      refine CG.out.mono ?_
      rintro e w1 ⟨rfl, hb1⟩
      have hb01 : Below wr.heap.size wr w1 := HAL.out.trans (hb1.mono (by simp))
      have d1 : w1.cell? ⟨wr.heap.size, 0, none⟩ = some (.slice af f.length cf) := (bcell hb1 _ _ (by simp)).trans (by go_simp)
      have HB01 := Lib.hid hb01
      have hz1 := hb01.size
      clear hb1 CG hb01 HAL p1
      cases r with
      | false =>
        obtain rfl : ok = false := by
          rw [← hok.out]
          rw [List.all_eq_false]
          exact ⟨f, List.mem_of_getElem? HF.out, by rw [HR.out]; simp⟩
        have HON : Hid (Only w w1 (fun b => (Value.slice a0 Pd.length c0).ownBlock = some b)) := Lib.hid (hon.out.trans (Only.of_below HB01.out) (fun _ _ h => h))
        clear hpile htops hap hnw hgd hok
        go_wp2
        exact bodyPost_ret (v := .tuple #[.slice none 0 0, .slice none 0 0, .bool false]) (by simp [results, Try.results50, go_sem]) rfl ⟨HON.out, none, 0, 0, none, 0, 0, rfl, fun h => by cases h⟩
      | true =>
        have hFt := fit_of_good HR.out
        have hUP := up_of_good HR.out
        have HGD2 : Hid (∀ g ∈ Fs.take (k + 1), goodB g = true) := Lib.hid (fun g hg => by
          rw [List.take_add_one, HF.out] at hg
          rcases List.mem_append.1 hg with h | h
          · exact hgd.out g h
          · simp at h; rw [h]; exact HR.out)
        obtain ⟨fd, hfd⟩ : ∃ fd, f.map downN = fd := ⟨_, rfl⟩
        have HPR : Hid (stkL Pd (D.take (k + 1)) = stk (Q, T) fd) := Lib.hid (by
          have h := HDA.out k f HF.out
          rw [List.take_add_one, h, ← HSK.out, ← hfd]
          exact stkL_snoc _ _ _)
        have hfl : fd.length = f.length := by rw [← hfd, List.length_map]
        rw [hfd] at hFt hUP
        have HNZ := Lib.hid fun (W : World) (hW : Below base w W) => show NodesZ W lo hi (.slice af f.length cf) (fd.map upN) from by rw [hUP]; exact HI0.out.below hW hhi
        have HFT := Lib.hid hFt
        have HFL := Lib.hid hfl
        have hm := hFt.most
        rw [hfl] at hm
        have R1 : Hid (PileZ w1 base (.slice a (Q.length + 0) c) vs ((Q ++ shD Q.length (fd.take 0)).map upN) (fun g => (Value.slice ta k tc).ownBlock = some g)) := Lib.hid (by rw [List.take_zero]; simpa [shD] using hpile.out.below HB01.out)
        have R2 := Lib.hid (htops.out.below HB01.out)
        have R3 : Hid (Only w w1 (fun b => (Value.slice a0 Pd.length c0).ownBlock = some b)) := Lib.hid (hon.out.trans (Only.of_below HB01.out) (fun _ _ h => h))
        clear hpile htops hon hUP hFt hfd hfl HF HR HI0 hgd HSK
        go_wp2
        go_loopw [0, 27] (fun q i w2 => ∃ (m : Nat) (a : Option Addr) (c : Nat) (vs : List (Value × Value)), m ≤ f.length ∧ i = .int .i64 m ∧ q = .slice a (Q.length + m) c ∧
          Hid (PileZ w2 base (.slice a (Q.length + m) c) vs ((Q ++ shD Q.length (fd.take m)).map upN) (fun g => (Value.slice ta k tc).ownBlock = some g)) ∧ Hid (OwnI w2 w.heap.size (.slice ta k tc) (upL T)) ∧ Hid (Apart (.slice a (Q.length + m) c) (.slice ta k tc)) ∧
          Hid (Only w w2 (fun b => (Value.slice a0 Pd.length c0).ownBlock = some b)) ∧ Hid (∀ g, (Value.slice a (Q.length + m) c).ownBlock = some g → g < w.heap.size → (Value.slice a0 Pd.length c0).ownBlock = some g)) (fun _ i _ => f.length - (intOf i).toNat)
        case atStart => exact ⟨0, a, c, vs, Nat.zero_le _, rfl, rfl, R1, R2, hap, R3, hnw⟩
        case round =>
          obtain ⟨m, a, c, vs, hml, rfl, rfl, hpile, htops, hap, hon, hnw⟩ := hrel
          clear R1 R2 R3
          have hbw2 : Below base w wr := hon.out.below hbase (fun g e => (HLT.out g e).1)
          have hsz2 := hon.out.size
          by_cases hlt2 : m < f.length
          · obtain ⟨nd, hnd⟩ := lt_get (l := fd) (i := m) (by have := HFL.out; omega)
            obtain ⟨b2, off2, cc, v1, v2, e, hbh2, p1, p2, j1, j2⟩ := nodes_atP (HNZ.out wr hbw2) hnd
            rw [HFL.out] at e
            obtain ⟨q1, q2, q3⟩ := slice_inj e
            clear q2
            subst q1 q3
            obtain ⟨a1, d1', rfl, hd1⟩ := ints_lenP j1
            obtain ⟨a2, d2', rfl, hd2⟩ := ints_lenP j2
            have hsm := HFT.out.small nd (List.mem_of_getElem? hnd)
            have hun := HFT.out.under m nd hnd
            have hal : Below wr.heap.size wr (wr.alloc (.cells #[.slice a1 nd.1.length d1', .slice a2 nd.2.length d2'] 73)) := (Below.refl _ _).alloc (Nat.le_refl _) _
            have hx1 : (wr.alloc (.cells #[.slice a1 nd.1.length d1', .slice a2 nd.2.length d2'] 73)).cell? ⟨wr.heap.size, 0, none⟩ = some (.slice a1 nd.1.length d1') := by go_simp
            have hx2 : (wr.alloc (.cells #[.slice a1 nd.1.length d1', .slice a2 nd.2.length d2'] 73)).cell? ⟨wr.heap.size, 1, none⟩ = some (.slice a2 nd.2.length d2') := by go_simp
            have J1 := Lib.hid (j1.below hal (by omega))
            have J2 := Lib.hid (j2.below hal (by omega))
            have HPI := Lib.hid (hpile.out.below hal)
            have HTO := Lib.hid (htops.out.below hal)
            have HON : Hid (Only w (wr.alloc (.cells #[.slice a1 nd.1.length d1', .slice a2 nd.2.length d2'] 73)) (fun b => (Value.slice a0 Pd.length c0).ownBlock = some b)) := Lib.hid (hon.out.trans (Only.of_below hal) (fun _ _ h => h))
            have hz1' : (wr.alloc (.cells #[.slice a1 nd.1.length d1', .slice a2 nd.2.length d2'] 73)).heap.size = wr.heap.size + 1 := by simp
            have HSN := Lib.hid (shD_take_snoc (n := Q.length) hnd)
            have HPL : Hid (((Q ++ shD Q.length (fd.take m)).map upN).length = Q.length + m) := Lib.hid (by rw [List.length_map, List.length_append, shD_len, List.length_take]; have := HFL.out; omega)
            have k0' : (0 : Int) ≤ m := by omega
            have k1' : (m : Int) < f.length := by omega
            have hpile0 := hpile
            clear e hnd hal hpile htops hon j1 j2
            go_upto_region 11 with fail
            generalize wr.alloc (.cells #[.slice a1 nd.1.length d1', .slice a2 nd.2.length d2'] 73) = W1 at hx1 hx2 J1 J2 HPI HTO HON hz1' ⊢
            have C1 := Lib.hid fun (W : World) (hW : Below W1.heap.size W1 W) => shifted_calls (.slice a1 nd.1.length d1') nd.1 Q.length W lo hi (by have := hW.size; omega) (J1.out.below hW (by omega)) (by omega) (fun x hx => by have := hun x (Or.inl hx); omega)
            have C2 := Lib.hid fun (W : World) (hW : Below W1.heap.size W1 W) => shifted_calls (.slice a2 nd.2.length d2') nd.2 Q.length W lo hi (by have := hW.size; omega) (J2.out.below hW (by omega)) (by omega) (fun x hx => by have := hun x (Or.inr hx); omega)
            have hbd : Hid (Below W1.heap.size W1 W1.drew) := Lib.hid (below_drewN (Below.refl _ _) 1)
            have hS0 : W1.drew.cell? ⟨wr.heap.size, 0, none⟩ = some (.slice a1 nd.1.length d1') ∧ W1.drew.cell? ⟨wr.heap.size, 1, none⟩ = some (.slice a2 nd.2.length d2') := ⟨hx1, hx2⟩
            have HNB : Hid (¬ (Value.slice a (Q.length + m) c).ownBlock = some wr.heap.size) := Lib.hid (fun e => by have := (hpile0.out.lt _ e).2; omega)
            clear hsm hun J1 J2 hx1 hx2 p1 p2
            go_region_held3 (fun w' : World => w'.cell? ⟨wr.heap.size, 0, none⟩ = some (.slice a1 nd.1.length d1') ∧ w'.cell? ⟨wr.heap.size, 1, none⟩ = some (.slice a2 nd.2.length d2')) (first | exact hS0 | (go_split_ands; exact ⟨‹_›, ‹_›⟩) | (go_split_ands; exact pairN_only HAPP.out HNB.out ⟨‹_›, ‹_›⟩) | (go_split_ands; exact pairN_below ((Below.refl _ _).alloc (Nat.le_refl _) _) ⟨‹_›, ‹_›⟩) | (go_split_ands; exact pairN_below hb5 ⟨‹_›, ‹_›⟩) | (go_split_ands; exact pairN_below hb4 ⟨‹_›, ‹_›⟩)) (first
              | (go_at_call 63; (with_reducible refine (C1.out _ hbd.out).mono ?_); rintro e w4 ⟨g1, rfl, ho1, hb4⟩; have HB4 : Below W1.heap.size W1 w4 := hbd.out.trans hb4)
              | (go_at_call 63; (with_reducible refine (C2.out w4 HB4).mono ?_); rintro e w5 ⟨g2, rfl, ho2, hb5⟩; have HB5 : Below W1.heap.size W1 w5 := HB4.trans (hb5.mono HB4.size); have HP5 := HPI.out.below HB5)
              | (refine step_app_nd_at rfl _ _ rfl (HP5.below ((Below.refl _ _).alloc (Nat.le_refl _) _)).row rfl (src_nd (B := w5.heap.size) (v1 := .slice (some ⟨g1, 0, none⟩) nd.1.length nd.1.length) (v2 := .slice (some ⟨g2, 0, none⟩) nd.2.length nd.2.length) (by go_simp) (by go_simp) rfl rfl) rfl (by rw [HPL.out]; omega) (by simp; have := HB5.size; omega) ?_; intro v7 w7 hown7 hgrow7 hat7; have HAPP : Hid (Only _ w7 (fun g => (Value.slice a (Q.length + m) c).ownBlock = some g)) := Lib.hid (Only.of_grown hgrow7 (fun g e => e))))
            all_goals
              have hz5 := HB5.size
              have hlit : Below w5.heap.size w5 (w5.alloc (.cells #[.slice (some ⟨g1, 0, none⟩) nd.1.length nd.1.length, .slice (some ⟨g2, 0, none⟩) nd.2.length nd.2.length] 73)) := (Below.refl _ _).alloc (Nat.le_refl _) _
              have HBL := HB5.trans (hlit.mono hz5)
              have hzl : (w5.alloc (.cells #[.slice (some ⟨g1, 0, none⟩) nd.1.length nd.1.length, .slice (some ⟨g2, 0, none⟩) nd.2.length nd.2.length] 73)).heap.size = w5.heap.size + 1 := by simp
              obtain ⟨g7, c7, rfl, _, hg7h⟩ := hown7.form (by omega)
              have hXt : ∀ g, (Value.slice ta k tc).ownBlock = some g → g < W1.heap.size := fun g e => (HTO.out.lt g e).2
              have PS := (HPI.out.below HBL).snoc (p := (.slice (some ⟨g1, 0, none⟩) nd.1.length nd.1.length, .slice (some ⟨g2, 0, none⟩) nd.2.length nd.2.length)) (nd := upN (nd.1.map (· + Q.length), nd.2.map (· + Q.length))) hgrow7 hown7 hat7
                (intsV_own (w := W1) HPI.out hXt ho1 (by simp) (hb5.trans (hlit.mono hb5.size))) (intsV_own (w := W1) HPI.out hXt ho2 HB4.size hlit)
              rw [HPL.out] at PS
              have hF : (Q ++ shD Q.length (fd.take m)).map upN ++ [upN (nd.1.map (· + Q.length), nd.2.map (· + Q.length))] = (Q ++ shD Q.length (fd.take (m + 1))).map upN := by
                rw [HSN.out]
                simp only [List.map_append, List.map_cons, List.map_nil, List.append_assoc]
              rw [hF] at PS
              have S1 : Hid (PileZ w7 base (.slice (some ⟨g7, 0, none⟩) (Q.length + (m + 1)) c7) _ ((Q ++ shD Q.length (fd.take (m + 1))).map upN) (fun g => (Value.slice ta k tc).ownBlock = some g)) := Lib.hid PS
              have OL : Only w (w5.alloc (.cells #[.slice (some ⟨g1, 0, none⟩) nd.1.length nd.1.length, .slice (some ⟨g2, 0, none⟩) nd.2.length nd.2.length] 73)) (fun b => (Value.slice a0 Pd.length c0).ownBlock = some b) := HON.out.trans (Only.of_below HBL) (fun _ _ h => h)
              have S4 : Hid (Only w w7 (fun b => (Value.slice a0 Pd.length c0).ownBlock = some b)) := Lib.hid (OL.trans HAPP.out (fun g hg e => hnw.out g e hg))
              have S2 : Hid (OwnI w7 w.heap.size (.slice ta k tc) (upL T)) := Lib.hid ((HTO.out.below HBL).only HAPP.out (fun g e1 e2 => hap.out g e2 e1))
              have hown7b : (Value.slice (some ⟨g7, 0, none⟩) (Q.length + (m + 1)) c7).ownBlock = (Value.slice a (Q.length + m) c).ownBlock ∨ (Value.slice (some ⟨g7, 0, none⟩) (Q.length + (m + 1)) c7).ownBlock = some (w5.heap.size + 1) := by
                rw [hzl] at hat7
                exact hat7
              have S3 : Hid (Apart (.slice (some ⟨g7, 0, none⟩) (Q.length + (m + 1)) c7) (.slice ta k tc)) := Lib.hid (fun g e1 e2 => by
                rcases hown7b with e | e
                · exact hap.out g (e ▸ e1) e2
                · rw [e] at e1; injection e1 with e1; have := hXt g e2; omega)
              have S5 : Hid (∀ g, (Value.slice (some ⟨g7, 0, none⟩) (Q.length + (m + 1)) c7).ownBlock = some g → g < w.heap.size → (Value.slice a0 Pd.length c0).ownBlock = some g) := Lib.hid (fun g e1 e2 => by
                rcases hown7b with e | e
                · exact hnw.out g (e ▸ e1) e2
                · rw [e] at e1; injection e1 with e1; omega)
              have hvn : ((Q ++ shD Q.length (fd.take m)).map upN).length + 1 = Q.length + (m + 1) := by rw [HPL.out]; omega
              rw [hvn]
              clear hown7 hgrow7 hat7 HAPP PS OL hF hvn hown7b hlit HBL hzl ho1 ho2 hb4 hb5 HB4 HB5 HP5 C1 C2 HPI HTO HON hnw hap hpile0 HSN HPL
              go_wp2
              go_roundw
              case rel => exact ⟨m + 1, some ⟨g7, 0, none⟩, c7, _, by omega, by go_num, rfl, S1, S2, S3, S4, S5⟩
              case measure => first | (simp [intOf]; done) | (simp [intOf]; omega)
          · have hml2 : m = f.length := by omega
            subst hml2
            have hfl := HFL.out
            rw [List.take_of_length_le (by omega)] at hpile
            have hpos := HFT.out.pos
            obtain ⟨N, hN⟩ : ∃ N, Q.length + f.length = N := ⟨_, rfl⟩
            have hN1 : 0 < N := by omega
            have hN2 : N ≤ 1000000 := by omega
            have hwl := len_less N hN1 hN2
            have HE1 : Hid ((stkL Pd (D.take (k + 1))).1 = Q ++ shD Q.length fd) := Lib.hid (by rw [HPR.out]; rfl)
            have HE2 : Hid ((stkL Pd (D.take (k + 1))).2 = T ++ [N - 1]) := Lib.hid (by rw [HPR.out, ← hN, ← hfl]; rfl)
            have HEL : Hid ((stkL Pd (D.take (k + 1))).1.length = N) := Lib.hid (by rw [HE1.out, List.length_append, shD_len]; omega)
            rw [hN] at hpile hap hnw ⊢
            have HTN := Lib.hid (show (upL T).length = k from by rw [upL_len]; exact HTL.out)
            have hown0 := Lib.hid (World.ownsRow.alloc htops.out (.cells #[.int .i64 ((N - 1 : Nat) : Int)] 3))
            rw [HTN.out] at hown0
            clear hN hpos hfl d1 HNZ HFT HPR HFL hbw2 hlt2
            go_wp2_with (at_builtin; refine wpList_append_own_at _ rfl _ _ 53 rfl w.heap.size 3 iN (.int .i64 0) 1 8 Try.underlying53 hiN hzN0 hzN1 hzN2 rfl (by decide) _ _ _ rfl hown0.out ⟨wr.heap.size, 0, none⟩ 1 1 [.int .i64 ((N - 1 : Nat) : Int)] rfl rfl (cell_one_new _ _ _) (by simp [Value.oneCell']) (by unfold maxLen; omega) (by omega) (by simp; omega) ?_; intro v7 w7 hown7 hgrow7 hnil7 hat7)
            obtain ⟨g7, c7, rfl, _, hg7h⟩ := hown7.form (by omega)
            have hL : Below wr.heap.size wr (wr.alloc (.cells #[.int .i64 ((N - 1 : Nat) : Int)] 3)) := (Below.refl _ _).alloc (Nat.le_refl _) _
            have hzL : (wr.alloc (.cells #[.int .i64 ((N - 1 : Nat) : Int)] 3)).heap.size = wr.heap.size + 1 := by simp
            have HAPP : Only (wr.alloc (.cells #[.int .i64 ((N - 1 : Nat) : Int)] 3)) w7 (fun g => (Value.slice ta k tc).ownBlock = some g) := Only.of_grown hgrow7 (fun g e => e)
            have hpl := hpile.out.lt
            have htl := htops.out.lt
            have hat : ∀ g, (Value.slice (some ⟨g7, 0, none⟩) (k + 1) c7).ownBlock = some g → (Value.slice ta k tc).ownBlock = some g ∨ g = wr.heap.size + 1 := fun g e => by
              rcases hat7 with h | h
              · exact Or.inl (h.symm.trans e)
              · right; have h2 := h.symm.trans e; rw [hzL] at h2; injection h2 with h2; exact h2.symm
            have S1 : Hid (PileZ w7 base (.slice a N c) vs ((stkL Pd (D.take (k + 1))).1.map upN) (fun g => (Value.slice (some ⟨g7, 0, none⟩) (k + 1) c7).ownBlock = some g)) := Lib.hid (by
              rw [HE1.out]
              exact (((hpile.out.below hL).reX (Y := fun g => (Value.slice ta k tc).ownBlock = some g ∨ g = wr.heap.size + 1) (fun g hg e => e.resolve_right (by omega))).only (HAPP.mono (fun _ _ e => Or.inl e)) (fun g e h => by
                rcases h with h | h
                · exact hap.out g e h
                · have := (hpl g e).2; omega)).reX (fun g _ e => hat g e))
            have S2 : Hid (OwnI w7 w.heap.size (.slice (some ⟨g7, 0, none⟩) (k + 1) c7) (upL (stkL Pd (D.take (k + 1))).2)) := Lib.hid (by
              rw [HE2.out]
              have e1 : upL (T ++ [N - 1]) = upL T ++ [((N - 1 : Nat) : Int)] := by unfold upL; rw [List.map_append]; rfl
              rw [e1]
              unfold OwnI
              rw [List.map_append, List.length_append, HTN.out]
              exact hown7)
            have S3 : Hid (Apart (.slice a N c) (.slice (some ⟨g7, 0, none⟩) (k + 1) c7)) := Lib.hid (fun g e1 e2 => by
              rcases hat g e2 with h | h
              · exact hap.out g e1 h
              · have := (hpl g e1).2; omega)
            have S4 : Hid (Only w w7 (fun b => (Value.slice a0 Pd.length c0).ownBlock = some b)) := Lib.hid ((hon.out.trans (Only.of_below hL) (fun _ _ h => h)).trans HAPP (fun g hg e => by have := (htl g e).1; omega))
            have S5 := hnw
            have hS1 := S1
            clear hown7 hgrow7 hnil7 hat7 hL hzL HAPP hpl htl hat hpile htops hap hon hnw hown0 hS1 hwl
            go_wp2
            go_roundw
            case rel => exact ⟨k + 1, a, c, vs, some ⟨g7, 0, none⟩, c7, by omega, by go_num, by rw [HEL.out], rfl, HGD2, by rw [HEL.out]; exact S1, S2, by rw [HEL.out]; exact S3, S4, by rw [HEL.out]; exact S5⟩
            case measure => first | (simp [intOf]; done) | (simp [intOf]; omega)
    · have hke : k = Fs.length := by omega
      subst hke
      rw [List.take_of_length_le (Nat.le_refl _)] at hgd
      have hD2 : D.take Fs.length = D := List.take_of_length_le (by rw [HDL.out]; exact Nat.le_refl _)
      rw [hD2] at HSK
      obtain rfl : ok = true := by
        rw [← hok.out, List.all_eq_true]
        exact hgd.out
      have HQ2 : Hid ((stkL Pd D).1 = Q) := Lib.hid (by rw [HSK.out])
      have HT2 : Hid ((stkL Pd D).2 = T) := Lib.hid (by rw [HSK.out])
      clear hD2 hok
      go_wp2
      refine bodyPost_ret (v := .tuple #[.slice a Q.length c, .slice ta Fs.length tc, .bool true]) (by simp [results, Try.results50, go_sem]) rfl ⟨hon.out, a, Q.length, c, ta, Fs.length, tc, rfl, fun _ => ?_⟩
      rw [HQ2.out, HT2.out, HDL.out]
      exact ⟨rfl, rfl, ⟨vs, hpile.out⟩, htops.out, hap.out, hnw.out⟩
end

section
set_option linter.unusedVariables false
set_option linter.unusedSimpArgs false
open Go.RowKit

theorem intsV_of_own {w : World} {base : Nat} {X : Nat → Prop} {u : Value} {l : List Int} (h : OwnI w base u l) (hX : ∀ g, u.ownBlock = some g → ¬ X g) : IntsV w X u l := by
  rcases h.2 with ⟨h1, h0⟩ | ⟨g, c, cs, h1, _⟩
  · have hl : l = [] := List.length_eq_zero_iff.1 h0
    subst hl
    exact ⟨0, 0, Nat.zero_le _, fun g _ => Or.inr (Nat.zero_le _), none, 0, by rw [h1]; rfl, by simp, fun j x hx => by simp at hx⟩
  · subst h1
    have hlt := World.ownsRow.lt h _ rfl
    have hcap := World.ownsRow.caps h
    refine ⟨g, g + 1, hlt.2, fun g' hg' => ?_, _, _, rfl, hcap, fun j x hx => ⟨g, 0, rfl, Nat.le_refl _, Nat.lt_succ_self _, ?_⟩⟩
    · have : g' ≠ g := fun e => hX g rfl (e ▸ hg')
      omega
    · rw [Nat.zero_add, World.ownsRow.cellAt h j (by have := get_lt hx; omega), List.getElem?_map, hx]
      rfl

def MkPostI (w : World) (g : List Nz) (ok : Bool) (e : Ending) (w' : World) : Prop := ∃ a c vs, e = .returned (.tuple #[.agg #[.slice a g.length c], .bool ok]) ∧ OwnF w' w.heap.size (.slice a g.length c) vs g ∧ Below w.heap.size w w'

theorem mkPost_none {w w' : World} {e : Ending} (he : e = .returned (.tuple #[.agg #[.slice none 0 0], .bool false])) (hb : Below w.heap.size w w') : MkPostI w [] false e w' := ⟨none, 0, [], he, OwnF.nil _ _, hb⟩

theorem mkD_opts {ls rs : List (List Nd)} (hl : ∀ f ∈ ls, Fit f) (hr : ∀ f ∈ rs, Fit f) (h1 : ls.length ≤ 100) (h2 : rs.length ≤ 100) : ∀ nd ∈ mkD ls rs, nd.1.length ≤ 1000 ∧ nd.2.length ≤ 1000 := fun nd hnd => by
  unfold mkD at hnd
  rcases List.mem_append.1 hnd with h | h
  · have := stkL_small (stkL [] ls).1 rs (stkL_small [] ls (fun nd h => by simp at h) (fun f hf => (hl f hf).small)) (fun f hf => (hr f hf).small) nd h
    omega
  · rw [List.mem_singleton] at h
    subst h
    have t1 := stkL_tops [] ls
    have t2 := stkL_tops (stkL [] ls).1 rs
    dsimp only
    omega

set_option maxRecDepth 100000 in
set_option maxHeartbeats 4000000 in
theorem makeI_calls (vl vr : Value) (Ls Rs : List (List Nz)) (g : List Nz) (ok : Bool) (hok : Hid (mkOk Ls Rs = ok)) (hg : Hid (mkV Ls Rs = g)) (w : World) (lo hi lo' hi' : Nat) (hh : hi ≤ w.heap.size) (hh' : hi' ≤ w.heap.size) (hl : FormsZ w lo hi vl Ls) (hr : FormsZ w lo' hi' vr Rs) :
    Calls Try.prog 21 #[vl, vr] w (MkPostI w g ok) := by
  obtain ⟨iN, hiN, hzN0, hzN1, hzN2⟩ := info_parts infoNodeA
  have hb0 : Below w.heap.size w (w.alloc (.cells #[.slice none 0 0] 24)) := (Below.refl _ _).alloc (Nat.le_refl _) _
  have hz0 : (w.alloc (.cells #[.slice none 0 0] 24)).heap.size = w.heap.size + 1 := by simp
  have hx0 : BoxAt (w.alloc (.cells #[.slice none 0 0] 24)) w.heap.size (.slice none 0 0) := ⟨by go_simp, by go_simp⟩
  obtain ⟨al, cl, hvl⟩ : ∃ a c, vl = .slice a Ls.length c := by obtain ⟨a, c, e, _⟩ := hl; exact ⟨a, c, e⟩
  obtain ⟨ar, cr, hvr⟩ : ∃ a c, vr = .slice a Rs.length c := by obtain ⟨a, c, e, _⟩ := hr; exact ⟨a, c, e⟩
  subst hvl hvr
  have HR := Lib.hid fun (W : World) (hW : Below w.heap.size w W) => hr.below hW hh'
  have HX0 := Lib.hid hx0
  have HB0 := Lib.hid hb0
  by_cases hn1 : Ls.length ≤ 100
  case neg =>
    have hn2 : (100 : Int) < Ls.length := by omega
    have hal : alB 100 Ls = false := by unfold alB; rw [Bool.and_eq_false_iff]; left; rw [decide_eq_false_iff_not]; omega
    obtain rfl : ok = false := by rw [← hok.out]; unfold mkOk; rw [hal]; rfl
    obtain rfl : g = [] := by rw [← hg.out, mkV_no hok.out]
    clear hl hr HR hal hok hg hx0 hb0 HX0
    go_enter Try.func21, Try.ntmps21
    go_wp2_with fail
    exact bodyPost_ret (v := .tuple #[.agg #[.slice none 0 0], .bool false]) (by simp [results, Try.results21, go_sem]) rfl (mkPost_none rfl HB0.out)
  by_cases hm1 : Rs.length ≤ 100
  case neg =>
    have hn2 : ¬ (100 : Int) < Ls.length := by omega
    have hm2 : (100 : Int) < Rs.length := by omega
    have hal : alB 100 Rs = false := by unfold alB; rw [Bool.and_eq_false_iff]; left; rw [decide_eq_false_iff_not]; omega
    obtain rfl : ok = false := by rw [← hok.out]; unfold mkOk; rw [hal, Bool.false_and, Bool.and_false]
    obtain rfl : g = [] := by rw [← hg.out, mkV_no hok.out]
    clear hl hr HR hal hok hg hx0 hb0 HX0
    go_enter Try.func21, Try.ntmps21
    go_wp2_with fail
    exact bodyPost_ret (v := .tuple #[.agg #[.slice none 0 0], .bool false]) (by simp [results, Try.results21, go_sem]) rfl (mkPost_none rfl HB0.out)
  have hn2 : ¬ (100 : Int) < Ls.length := by omega
  have hm2 : ¬ (100 : Int) < Rs.length := by omega
  obtain ⟨r1, hr1⟩ : ∃ r, Ls.all goodB = r := ⟨_, rfl⟩
  obtain ⟨r2, hr2⟩ : ∃ r, Rs.all goodB = r := ⟨_, rfl⟩
  have H1 : Hid (alB 100 Ls = r1) := Lib.hid (by unfold alB; rw [decide_eq_true hn1, Bool.true_and]; exact hr1)
  have H2 : Hid (alB 100 Rs = r2) := Lib.hid (by unfold alB; rw [decide_eq_true hm1, Bool.true_and]; exact hr2)
  have C1 := Lib.hid (stacked_calls (.slice none 0 0) [] [] (fun _ => False) (.slice al Ls.length cl) Ls r1 (Lib.hid hr1) _ (w.heap.size + 1) lo hi (by rw [hz0]; exact Nat.le_refl _) (PileZ.nil _ _ _) (hl.below hb0 hh) (by omega) hn1 (by simp))
  have HR2 := Lib.hid hr2
  clear hl hr hr1 hr2 hx0 hb0
  go_enter Try.func21, Try.ntmps21
  go_wp2_with fail
  refine C1.out.mono ?_
  rintro e w1 ⟨ho1, pa, pn, pc, ta, tn, tc, rfl, hs1⟩
  have hb1 : Below (w.heap.size + 1) _ w1 := ho1.below (base := w.heap.size + 1) (by rw [hz0]; exact Nat.le_refl _) (fun g e => by simp [Value.ownBlock] at e)
  have hx1 := HX0.out.block (hb1.block _ (by omega))
  have HB1 : Hid (Below w.heap.size w w1) := Lib.hid (HB0.out.trans (hb1.mono (by omega)))
  have hz1 : w.heap.size + 1 ≤ w1.heap.size := by have := ho1.size; omega
  clear ho1 hb1 C1 HX0 HB0
  cases r1 with
  | false =>
    obtain rfl : ok = false := by rw [← hok.out]; unfold mkOk; rw [H1.out]; rfl
    obtain rfl : g = [] := by rw [← hg.out, mkV_no hok.out]
    obtain ⟨d1, z1⟩ := hx1
    have B4 := Lib.hid (HB1.out.setCell (p := ⟨w.heap.size, 0, none⟩) (Nat.le_refl _) (.slice none 0 0))
    have hcr := World.cell?_setCell_same w1 ⟨w.heap.size, 0, none⟩ (.slice none 0 0) d1
    clear hs1 hok hg
    go_wp2_with fail
    exact bodyPost_ret (v := .tuple #[.agg #[.slice none 0 0], .bool false]) (by simp [results, Try.results21, go_sem, hcr]) rfl (mkPost_none rfl B4.out)
  | true =>
    obtain ⟨rfl, rfl, ⟨vs1, hp1⟩, ht1, hap1, hnw1⟩ := hs1 rfl
    have hlen1 := stkL_len [] (Ls.map (fun f => f.map downN)) (fun f hf => (forms_fit (alB_parts H1.out).2 f hf).most)
    rw [List.length_map, List.length_nil] at hlen1
    obtain ⟨Q1, hQ1⟩ : ∃ Q, (stkL [] (Ls.map (fun f => f.map downN))).1 = Q := ⟨_, rfl⟩
    obtain ⟨T1, hT1⟩ : ∃ T, (stkL [] (Ls.map (fun f => f.map downN))).2 = T := ⟨_, rfl⟩
    rw [hQ1] at hp1 hap1 hlen1 ⊢
    rw [hT1] at ht1
    rw [List.length_map] at hp1 ht1 hap1 ⊢
    have C2 := Lib.hid (stacked_calls (.slice pa Q1.length pc) vs1 Q1 (fun g => (Value.slice ta Ls.length tc).ownBlock = some g) (.slice ar Rs.length cr) Rs r2 HR2 w1 (w.heap.size + 1) lo' hi' hz1 hp1 (HR.out w1 HB1.out) (by omega) hm1 (by omega))
    have HT1 := Lib.hid ht1
    have HP1 := Lib.hid hp1.lt
    have HAP1 := Lib.hid hap1
    have HQ1 := Lib.hid hQ1
    have HTE1 := Lib.hid hT1
    clear hp1 ht1 hap1 hnw1 hs1 hQ1 hT1
    go_wp2_with fail
    refine C2.out.mono ?_
    rintro e w2 ⟨ho2, pa2, pn2, pc2, ta2, tn2, tc2, rfl, hs2⟩
    have hb2 : Below (w.heap.size + 1) w1 w2 := ho2.below hz1 (fun g e => (HP1.out g e).1)
    have hx2 := hx1.block (hb2.block _ (by omega))
    have HB2 : Hid (Below w.heap.size w w2) := Lib.hid (HB1.out.trans (hb2.mono (by omega)))
    have hz2 : w.heap.size + 1 ≤ w2.heap.size := by have := ho2.size; omega
    have HT2 := Lib.hid (HT1.out.only ho2 (fun g e1 e2 => HAP1.out g e2 e1))
    have HTL := Lib.hid HT1.out.lt
    clear ho2 hb2 C2 hx1
    cases r2 with
    | false =>
      obtain rfl : ok = false := by rw [← hok.out]; unfold mkOk; rw [H2.out, Bool.false_and, Bool.and_false]
      obtain rfl : g = [] := by rw [← hg.out, mkV_no hok.out]
      obtain ⟨d1, z1⟩ := hx2
      have B4 := Lib.hid (HB2.out.setCell (p := ⟨w.heap.size, 0, none⟩) (Nat.le_refl _) (.slice none 0 0))
      have hcr := World.cell?_setCell_same w2 ⟨w.heap.size, 0, none⟩ (.slice none 0 0) d1
      clear hs2 hok hg HR2
      go_wp2_with fail
      exact bodyPost_ret (v := .tuple #[.agg #[.slice none 0 0], .bool false]) (by simp [results, Try.results21, go_sem, hcr]) rfl (mkPost_none rfl B4.out)
    | true =>
      obtain ⟨rfl, rfl, ⟨vs2, hp2⟩, ht2, hap2, hnw2⟩ := hs2 rfl
      obtain ⟨n1, g1⟩ := alB_parts H1.out
      obtain ⟨n2, g2⟩ := alB_parts H2.out
      have f1 := forms_fit g1
      have f2 := forms_fit g2
      have hlen2 := stkL_len Q1 (Rs.map (fun f => f.map downN)) (fun f hf => (f2 f hf).most)
      obtain ⟨Q2, hQ2⟩ : ∃ Q, (stkL Q1 (Rs.map (fun f => f.map downN))).1 = Q := ⟨_, rfl⟩
      obtain ⟨T2, hT2⟩ : ∃ T, (stkL Q1 (Rs.map (fun f => f.map downN))).2 = T := ⟨_, rfl⟩
      rw [hQ2] at hp2 hap2 hlen2 hnw2 ⊢
      rw [hT2] at ht2
      rw [List.length_map] at hp2 ht2 hap2 hlen2 ⊢
      have HMK : Hid (mkD (Ls.map (fun f => f.map downN)) (Rs.map (fun f => f.map downN)) = Q2 ++ [(T1, T2)]) := Lib.hid (by unfold mkD; rw [HQ1.out, HTE1.out, hQ2, hT2])
      have hMu := mkD_under f1 f2
      have hMr := mkD_reach f1 f2
      have hMo := mkD_opts f1 f2 (by rw [List.length_map]; exact n1) (by rw [List.length_map]; exact n2)
      have hfok : fitsN (formM (mkD (Ls.map (fun f => f.map downN)) (Rs.map (fun f => f.map downN)))) = ok := by rw [← hok.out]; unfold mkOk; rw [H1.out, H2.out]; rfl
      have hout : outV (mkD (Ls.map (fun f => f.map downN)) (Rs.map (fun f => f.map downN))) = g := by
        rw [← hg.out]
        cases hk : ok with
        | true => rw [mkV_yes (by rw [hok.out, hk]), outV_yes (by rw [hfok, hk])]
        | false => rw [mkV_no (by rw [hok.out, hk]), outV_no (by rw [hfok, hk])]
      rw [HMK.out] at hMu hMr hMo hfok hout
      obtain ⟨P, hP⟩ : ∃ P, Q2 ++ [(T1, T2)] = P := ⟨_, rfl⟩
      have HPE := Lib.hid hP
      have hPl : P.length = Q2.length + 1 := by rw [← hP]; simp
      rw [hP] at hMu hMr hMo hfok hout
      have HMU := Lib.hid hMu
      have HMR := Lib.hid hMr
      have HMO := Lib.hid hMo
      have HFO := Lib.hid hfok
      have HOU := Lib.hid hout
      have HPL := Lib.hid hPl
      have hal : Below w2.heap.size w2 (w2.alloc (.cells #[.slice ta Ls.length tc, .slice ta2 Rs.length tc2] 73)) := (Below.refl _ _).alloc (Nat.le_refl _) _
      have hp2n := (hp2.reX (Y := fun _ => False) (fun _ _ e => e.elim))
      have HP3 := Lib.hid (hp2n.below hal)
      have HT3 := Lib.hid (HT2.out.below hal)
      have HU3 := Lib.hid (ht2.below hal)
      have HAP : Hid (∀ g, (Value.slice ta Ls.length tc).ownBlock = some g → ¬ PX (.slice pa2 Q2.length pc2) (fun _ => False) g) := Lib.hid (fun g e h => by
        rcases h with h | h
        · have h1 := (HTL.out g e).2
          exact HAP1.out g (hnw2 g h (by omega)) e
        · exact h)
      have HAP2 : Hid (∀ g, (Value.slice ta2 Rs.length tc2).ownBlock = some g → ¬ PX (.slice pa2 Q2.length pc2) (fun _ => False) g) := Lib.hid (fun g e h => by
        rcases h with h | h
        · exact hap2 g h e
        · exact h)
      have hrow := Lib.hid HP3.out.row
      have HQL : Hid ((Q2.map upN).length = Q2.length) := Lib.hid (by simp)
      rw [HQL.out] at hrow
      have HLIT := Lib.hid hal
      have hq2 : Q2.length ≤ 25000 := by omega
      clear hp2 ht2 hap2 hnw2 hs2 hQ2 hT2 hMu hMr hMo hfok hout hP hPl hal hp2n f1 f2 g1 g2 hok hg
      go_wp2_with (at_builtin; refine wpList_append_own_at _ rfl _ _ 22 rfl (w.heap.size + 1) 73 iN (.agg #[.slice none 0 0, .slice none 0 0]) 2 48 Try.underlying22 hiN hzN0 hzN1 hzN2 rfl (by decide) _ _ _ rfl hrow.out ⟨w2.heap.size, 0, none⟩ 1 1 [.slice ta Ls.length tc, .slice ta2 Rs.length tc2] rfl rfl (World.news_of_block (heap_alloc_new _ _)) (by simp [Value.oneCell']) (by unfold maxLen; omega) (by omega) (by simp; omega) ?_; intro v7 w7 hown7 hgrow7 hnil7 hat7)
      obtain ⟨g7, c7, rfl, _, hg7h⟩ := hown7.form (by omega)
      have PS := HP3.out.snoc (p := (.slice ta Ls.length tc, .slice ta2 Rs.length tc2)) (nd := upN (T1, T2)) hgrow7 (by rw [HQL.out]; exact hown7) hat7 (intsV_of_own HT3.out HAP.out) (intsV_of_own HU3.out HAP2.out)
      have hPS : Q2.map upN ++ [upN (T1, T2)] = P.map upN := by rw [← HPE.out, List.map_append]; rfl
      rw [hPS] at PS
      have HB7 : Hid (Below (w.heap.size + 1) w2 w7) := Lib.hid ((HLIT.out.mono hz2).trans ((Only.of_grown (F := fun g => (Value.slice pa2 Q2.length pc2).ownBlock = some g) hgrow7 (fun g e => e)).below (by have := HLIT.out.size; omega) (fun g e => (HP3.out.lt g e).1)))
      have CF := Lib.hid (formOf_calls (.slice (some ⟨g7, 0, none⟩) (Q2.length + 1) c7) P g ok w7 0 w7.heap.size (Nat.le_refl _) PS.nodesZ HMU.out (by rw [HPL.out]; omega) HMR.out (by rw [HPL.out]; omega) HMO.out HFO HOU)
      have hx7 := hx2.block (HB7.out.block _ (by omega))
      have HB7w := Lib.hid (HB2.out.trans (HB7.out.mono (by omega)))
      have hs7 := HB7w.out.size
      clear hown7 hgrow7 hnil7 hat7 PS hPS hx2 hrow
      go_wp2_with fail
      refine CF.out.mono ?_
      rintro e w8 ⟨a, c, vs, rfl, ho8, hb8⟩
      obtain ⟨d8, z8⟩ := hx7.below hb8
      have hlt7 := block_of_cell hx7.1
      have HO : Hid (OwnF (w8.setCell ⟨w.heap.size, 0, none⟩ (.slice a g.length c)) w.heap.size (.slice a g.length c) vs g) := Lib.hid ((ho8.setCell (by show w.heap.size < w7.heap.size; omega)).mono hs7)
      have HB8 : Hid (Below w.heap.size w (w8.setCell ⟨w.heap.size, 0, none⟩ (.slice a g.length c))) := Lib.hid ((HB7w.out.trans (hb8.mono hs7)).setCell (Nat.le_refl _) _)
      have hcr := World.cell?_setCell_same w8 ⟨w.heap.size, 0, none⟩ (.slice a g.length c) d8
      clear ho8 hb8 CF hx7
      go_wp2_with fail
      exact bodyPost_ret (v := .tuple #[.agg #[.slice a g.length c], .bool ok]) (by simp [results, Try.results21, go_sem, hcr]) rfl ⟨a, c, vs, rfl, HO.out, HB8.out⟩
end

section
set_option linter.unusedVariables false
set_option linter.unusedSimpArgs false
open Go.RowKit

theorem below_viaZ {a W b : World} (h : Below a.heap.size a W) (g : Below W.heap.size W b) : Below a.heap.size a b := h.trans (g.mono h.size)

theorem formsZ_one {w : World} {B : Nat} {v : Value} {f : List Nz} {lo hi : Nat} (hc : w.cell? ⟨B, 0, none⟩ = some v) (hn : NodesZ w lo hi v f) (h1 : lo ≤ B) (h2 : B < hi) : FormsZ w lo hi (.slice (some ⟨B, 0, none⟩) 1 1) [f] :=
  ⟨_, 1, rfl, ⟨Nat.le_refl _, by simp⟩, fun j g hj => by
    have h0 := get_lt hj
    simp at h0
    subst h0
    simp at hj
    subst hj
    exact ⟨B, 0, v, rfl, h1, h2, hc, hn⟩⟩
theorem formsZ_two {w : World} {B : Nat} {v1 v2 : Value} {f1 f2 : List Nz} {lo hi : Nat} (hc1 : w.cell? ⟨B, 0, none⟩ = some v1) (hc2 : w.cell? ⟨B, 1, none⟩ = some v2) (hn1 : NodesZ w lo hi v1 f1) (hn2 : NodesZ w lo hi v2 f2) (h1 : lo ≤ B) (h2 : B < hi) : FormsZ w lo hi (.slice (some ⟨B, 0, none⟩) 2 2) [f1, f2] :=
  ⟨_, 2, rfl, ⟨Nat.le_refl _, by simp⟩, fun j g hj => by
    have h0 := get_lt hj
    simp at h0
    rcases (show j = 0 ∨ j = 1 by omega) with rfl | rfl
    · simp at hj
      subst hj
      exact ⟨B, 0, v1, rfl, h1, h2, hc1, hn1⟩
    · simp at hj
      subst hj
      exact ⟨B, 0, v2, rfl, h1, h2, hc2, hn2⟩⟩

def FormPost (w : World) (f : List Nz) (e : Ending) (w' : World) : Prop := ∃ a c, e = .returned (.agg #[.slice a f.length c]) ∧ NodesZ w' w.heap.size w'.heap.size (.slice a f.length c) f ∧ Below w.heap.size w w'

theorem zeroS_calls (w : World) : Calls Try.prog 64 #[] w (FormPost w (zeroD.map upN)) := by
  go_enter Try.func64, Try.ntmps64
  go_wp2_with fail
  have z1 : (w.alloc (.cells #[.slice (some ⟨w.heap.size + 1, 0, none⟩) 1 1] 24)).heap.size = w.heap.size + 1 := by simp
  have b1 : Below w.heap.size w (w.alloc (.cells #[.slice (some ⟨w.heap.size + 1, 0, none⟩) 1 1] 24)) := (Below.refl _ _).alloc (Nat.le_refl _) _
  have b2 : Below (w.alloc (.cells #[.slice (some ⟨w.heap.size + 1, 0, none⟩) 1 1] 24)).heap.size (w.alloc (.cells #[.slice (some ⟨w.heap.size + 1, 0, none⟩) 1 1] 24)) ((w.alloc (.cells #[.slice (some ⟨w.heap.size + 1, 0, none⟩) 1 1] 24)).alloc (.cells #[.slice none 0 0, .slice none 0 0] 73)) := (Below.refl _ _).alloc (Nat.le_refl _) _
  have hcr : ((w.alloc (.cells #[.slice (some ⟨w.heap.size + 1, 0, none⟩) 1 1] 24)).alloc (.cells #[.slice none 0 0, .slice none 0 0] 73)).cell? ⟨w.heap.size, 0, none⟩ = some (.slice (some ⟨w.heap.size + 1, 0, none⟩) 1 1) := (bcell b2 _ _ (by simp)).trans (by go_simp)
  have n1 : ((w.alloc (.cells #[.slice (some ⟨w.heap.size + 1, 0, none⟩) 1 1] 24)).alloc (.cells #[.slice none 0 0, .slice none 0 0] 73)).cell? ⟨w.heap.size + 1, 0, none⟩ = some (.slice none 0 0) := by rw [← z1]; go_simp
  have n2 : ((w.alloc (.cells #[.slice (some ⟨w.heap.size + 1, 0, none⟩) 1 1] 24)).alloc (.cells #[.slice none 0 0, .slice none 0 0] 73)).cell? ⟨w.heap.size + 1, 1, none⟩ = some (.slice none 0 0) := by rw [← z1]; go_simp
  have hz : ((w.alloc (.cells #[.slice (some ⟨w.heap.size + 1, 0, none⟩) 1 1] 24)).alloc (.cells #[.slice none 0 0, .slice none 0 0] 73)).heap.size = w.heap.size + 2 := by simp
  refine bodyPost_ret (v := .agg #[.slice (some ⟨w.heap.size + 1, 0, none⟩) 1 1]) (by simp [results, Try.results64, go_sem, hcr]) rfl ⟨some ⟨w.heap.size + 1, 0, none⟩, 1, rfl, ?_, below_viaZ b1 b2⟩
  refine ⟨_, 1, rfl, ⟨Nat.le_refl _, by simp⟩, fun j nd hj => ?_⟩
  have h0 := get_lt hj
  have h1 : (zeroD.map upN).length = 1 := rfl
  rw [h1] at h0
  obtain rfl : j = 0 := by omega
  have e : nd = ([], []) := by
    have h2 : (zeroD.map upN)[0]? = some ([], []) := rfl
    rw [h2] at hj
    injection hj with hj
    exact hj.symm
  subst e
  exact ⟨w.heap.size + 1, 0, .slice none 0 0, .slice none 0 0, rfl, by omega, by rw [hz]; omega, n1, n2, ⟨none, 0, rfl, by simp, fun j x hx => by simp at hx⟩, ⟨none, 0, rfl, by simp, fun j x hx => by simp at hx⟩⟩
end

section
open Go.RowKit
set_option linter.unusedVariables false
set_option linter.unusedSimpArgs false

def NilPost (w : World) (e : Ending) (w' : World) : Prop := ∃ g vs, e = .returned (.agg #[.slice (some ⟨g, 0, none⟩) 1 1]) ∧ OwnF w' w.heap.size (.slice (some ⟨g, 0, none⟩) 1 1) vs [([], [])] ∧ Below w.heap.size w w'

set_option maxRecDepth 100000 in
theorem nothing_own (w : World) : Calls Try.prog 66 #[] w (NilPost w) := by
  obtain ⟨i0, hi0, hz0, hz1, hz2⟩ := info_parts infoNodeA
  have hb0 : Below w.heap.size w (w.alloc (.cells #[.slice none 0 0] 24)) := (Below.refl _ _).alloc (Nat.le_refl _) _
  have hx0 : BoxAt (w.alloc (.cells #[.slice none 0 0] 24)) w.heap.size (.slice none 0 0) := ⟨by go_simp, by go_simp⟩
  have hz : (w.alloc (.cells #[.slice none 0 0] 24)).heap.size = w.heap.size + 1 := by simp
  have HB0 := Lib.hid hb0
  have HX0 := Lib.hid hx0
  have HZ := Lib.hid hz
  clear hb0 hx0 hz
  go_enter Try.func66, Try.ntmps66
  go_wp2_with (at_make; refine wpList_make_full _ rfl _ _ 22 rfl (w.heap.size + 1) 73 i0 (.agg #[.slice none 0 0, .slice none 0 0]) 2 Try.underlying22 hi0 hz0 hz1 _ _ _ _ 1 rfl rfl (by first | rfl | (simp; done)) (by first | rfl | (simp; done)) (by rw [hz2]; omega) (by unfold maxLen; omega) (by simp) ?_; intro w1 hown hg; have hbg : Below _ _ w1 := (Below.refl _ _).grown hg (Nat.le_refl _) (fun k hk => by cases hk); obtain ⟨d1, z1⟩ := HX0.out.below hbg)
  rw [HZ.out] at hown
  have HB := Lib.hid ((HB0.out.trans (hbg.mono HB0.out.size)).setCell (p := ⟨w.heap.size, 0, none⟩) (Nat.le_refl _) (.slice (some ⟨w.heap.size + 1, 0, none⟩) 1 1))
  have HO := Lib.hid (((ownF_made hown).setCell (p := ⟨w.heap.size, 0, none⟩) (u := .slice (some ⟨w.heap.size + 1, 0, none⟩) 1 1) (by show w.heap.size < w.heap.size + 1; omega)).mono (base' := w.heap.size) (by omega))
  have hcr := World.cell?_setCell_same w1 ⟨w.heap.size, 0, none⟩ (.slice (some ⟨w.heap.size + 1, 0, none⟩) 1 1) d1
  clear hown hg hbg
  go_wp2_with fail
  exact bodyPost_ret (v := .agg #[.slice (some ⟨w.heap.size + 1, 0, none⟩) 1 1]) (by simp [results, Try.results66, go_sem, hcr]) rfl ⟨_, _, rfl, HO.out, HB.out⟩
end

section
set_option linter.unusedVariables false
set_option linter.unusedSimpArgs false

/-- nodes in order, of which the first is the game 0 -/
structure CanF (P : List Nd) : Prop where
  struct : Struct P
  rising : RisingBy P (bOf P)
  used : Used P
  small : ∀ nd ∈ P, nd.1.length ≤ 24 ∧ nd.2.length ≤ 24
  first : P[0]? = some ([], [])

theorem CanF.pos {P : List Nd} (h : CanF P) : 0 < P.length := get_lt h.first
theorem CanF.fit {P : List Nd} (h : CanF P) (hl : P.length ≤ 125) : Fit P := ⟨h.pos, hl, h.struct.under, h.used, h.small⟩

theorem canF_good {f : List Nz} (h : goodB f = true) : CanF (f.map downN) := by
  obtain ⟨h1, h2, h3, h4⟩ := (goodB_iff f).1 h
  have hf := fit_goodM h
  refine ⟨h2.up.2, h3, h4, hf.small, ?_⟩
  obtain ⟨nd, hnd⟩ := lt_get hf.pos
  have hu := h2.up.2.under 0 nd hnd
  have e1 : nd.1 = [] := List.eq_nil_iff_forall_not_mem.2 (fun x hx => by have := hu x (Or.inl hx); omega)
  have e2 : nd.2 = [] := List.eq_nil_iff_forall_not_mem.2 (fun x hx => by have := hu x (Or.inr hx); omega)
  rw [hnd]
  congr 1
  exact Prod.ext e1 e2

theorem bOf_pre {A C : List Nd} (h : A <+: C) (k : Nat) (hk : k < A.length) : bOf C k = bOf A k := by
  obtain ⟨B, rfl⟩ := h
  exact getD_pre (bornsOf_pre A B) k (by rw [bornsOf_len]; exact hk)

/-- a node on top -/
def topN (P : List Nd) : Nd := ([0], [P.length - 1])
theorem CanF.top {P : List Nd} (h : CanF P) : CanF (P ++ [topN P]) := by
  have hp := h.pos
  have hs : Struct (P ++ [topN P]) := struct_snoc h.struct (by simp [topN]) (by simp [topN]) (fun x hx => by simp [topN] at hx; omega)
  refine ⟨hs, ?_, used_snoc h.used (fun _ => Or.inr (by simp [topN])), fun x hx => ?_, by rw [List.getElem?_append_left hp]; exact h.first⟩
  · intro k x y hx hy
    rcases Nat.lt_or_ge (k + 1) P.length with hlt | hge
    · rw [List.getElem?_append_left (by omega)] at hx
      rw [List.getElem?_append_left hlt] at hy
      rw [bOf_pre (List.prefix_append P [topN P]) k (by omega), bOf_pre (List.prefix_append P [topN P]) (k + 1) hlt]
      exact h.rising k x y hx hy
    · have hyl := get_lt hy
      simp at hyl
      have hk : k + 1 = P.length := by omega
      rw [hk] at hy ⊢
      left
      simp at hy
      subst hy
      have hb := births_bOf _ hs.under P.length (topN P) (by simp)
      rw [hb]
      exact lastOf_lt _ (topN P) k (Or.inr (by simp [topN]; omega))
  · rcases List.mem_append.1 hx with hx | hx
    · exact h.small x hx
    · rw [List.mem_singleton] at hx; subst hx; simp [topN]

/-- the model's game with 0 and a game as options -/
theorem top_make {f : List Nd} (h : CanF f) (hl : f.length ≤ 125) : formM (mkD [zeroD] [f]) = f ++ [topN f] := by
  have hp := h.pos
  have hg := h.top
  have e : mkD [zeroD] [f] = [([], [])] ++ shD 1 f ++ [([0], [f.length])] := by
    have e1 : stkL [] [zeroD] = ([([], [])], [0]) := by simp [stkL, stk, zeroD, shD]
    unfold mkD
    rw [e1]
    have e2 : stkL [([], [])] [f] = ([([], [])] ++ shD 1 f, [1 + f.length - 1]) := by simp [stkL, stk]
    rw [e2]
    dsimp only
    rw [show 1 + f.length - 1 = f.length from by omega]
  have hfz : ∀ g ∈ [zeroD], Fit g := fun g hg => by simp at hg; subst hg; exact zero_fit
  have hff : ∀ g ∈ [f], Fit g := fun g hg => by simp at hg; subst hg; exact h.fit hl
  have hu := mkD_under hfz hff
  have hlen : (mkD [zeroD] [f]).length = f.length + 2 := by rw [e]; simp only [List.length_append, shD_len, List.length_singleton]; omega
  refine (order_is hu (by omega) (mkD_reach hfz hff) (canon_via (pl := fun k => k - 1) hu hg.struct hg.rising (fun k nd hk => ?_) (fun i hi => ?_))).symm
  · rw [e] at hk
    rcases Nat.lt_or_ge k (f.length + 1) with hlt | hge
    · rw [List.getElem?_append_left (by simp [shD_len]; omega)] at hk
      cases k with
      | zero =>
        simp at hk
        subst hk
        rw [List.getElem?_append_left (by simpa using hp)]
        exact h.first
      | succ k =>
        simp at hk
        obtain ⟨x, hx, rfl⟩ := shD_get hk
        rw [show k + 1 - 1 = k from by omega, List.getElem?_append_left (get_lt hx), hx]
        have hid := movd_id h.struct hx
        unfold movd at hid ⊢
        simp only [List.map_map, Function.comp_def, Nat.add_sub_cancel]
        rw [← hid]
        simp only [List.map_id']
        rw [sortd_id _ (sortd_asc _), sortd_id _ (sortd_asc _)]
    · rw [List.getElem?_append_right (by simp [shD_len]; omega)] at hk
      have h0 := get_lt hk
      simp [shD_len] at h0
      have hk0 : k = f.length + 1 := by omega
      subst hk0
      simp [shD_len] at hk
      subst hk
      rw [show f.length + 1 - 1 = f.length from by omega]
      simp [movd, sortd, putN, topN]
  · refine ⟨i + 1, ?_, by omega⟩
    rw [hlen]
    simp at hi
    omega

theorem CanF.goodZ {P : List Nd} (h : CanF P) (hl : P.length ≤ 120) : goodB (P.map upN) = true := by
  refine (goodB_iff _).2 ⟨⟨by simpa using h.pos, by simpa using hl, fun nd hnd => ?_⟩, structZ_up h.struct, ?_, ?_⟩
  · obtain ⟨x, hx, rfl⟩ := List.mem_map.1 hnd
    have := h.small x hx
    simpa [upN, upL] using this
  · rw [down_up]; exact h.rising
  · rw [down_up]; exact h.used
theorem CanF.fitsN {P : List Nd} (h : CanF P) : fitsN P = decide (P.length ≤ 120) := by
  rw [Bool.eq_iff_iff, fitsN_iff, decide_eq_true_eq]
  constructor
  · intro e; simpa using e.2.1
  · intro e; exact ((goodB_iff _).1 (h.goodZ e)).1

/-- the tiny's nodes -/
def tn1 (f : List Nz) : List Nd := (negV f).map downN ++ [topN ((negV f).map downN)]
def tn2 (f : List Nz) : List Nd := tn1 f ++ [topN (tn1 f)]
/-- is there a tiny? -/
def tinyOk (f : List Nz) : Bool := goodB f && decide (f.length + 2 ≤ 120)
/-- the tiny, or nothing -/
def tinyV (f : List Nz) : List Nz := if tinyOk f then (tn2 f).map upN else []
theorem tinyV_no {f : List Nz} (h : tinyOk f = false) : tinyV f = [] := by unfold tinyV; rw [h]; rfl
theorem tinyV_yes {f : List Nz} (h : tinyOk f = true) : tinyV f = (tn2 f).map upN := by unfold tinyV; rw [h]; rfl

theorem tn_facts {f : List Nz} (h : goodB f = true) : CanF ((negV f).map downN) ∧ CanF (tn1 f) ∧ CanF (tn2 f) ∧ ((negV f).map downN).length = f.length ∧ (tn1 f).length = f.length + 1 ∧ (tn2 f).length = f.length + 2 := by
  have h1 := canF_good (neg_good h)
  have hl := neg_len h
  have h2 : CanF (tn1 f) := h1.top
  have h3 : CanF (tn2 f) := h2.top
  have e1 : ((negV f).map downN).length = f.length := by rw [List.length_map]; exact hl
  have e2 : (tn1 f).length = f.length + 1 := by unfold tn1; rw [List.length_append, e1]; rfl
  exact ⟨h1, h2, h3, e1, e2, by unfold tn2; rw [List.length_append, e2]; rfl⟩

def zZ : List Nz := [([], [])]
theorem zZ_down : zZ.map downN = zeroD := rfl
theorem zZ_good : goodB zZ = true := by decide

theorem alB_one {g : List Nz} : alB 100 [g] = goodB g := by unfold alB; simp

theorem mk_zero (g : List Nz) : mkOk [zZ] [g] = (goodB g && fitsN (formM (mkD [zeroD] [g.map downN]))) := by
  unfold mkOk
  rw [alB_one, alB_one, zZ_good, Bool.true_and]
  rfl

/-- the two steps of the program -/
theorem tiny_steps (f : List Nz) : mkOk [zZ] [mkV [zZ] [negV f]] = tinyOk f ∧ mkV [zZ] [mkV [zZ] [negV f]] = tinyV f := by
  cases h : goodB f with
  | false =>
    have e1 : negV f = [] := negV_no h
    have e2 : mkOk [zZ] [negV f] = false := by rw [mk_zero, e1]; rfl
    have e3 : mkV [zZ] [negV f] = [] := mkV_no e2
    have e4 : mkOk [zZ] [mkV [zZ] [negV f]] = false := by rw [e3, mk_zero]; rfl
    have e5 : tinyOk f = false := by unfold tinyOk; rw [h]; rfl
    exact ⟨by rw [e4, e5], by rw [mkV_no e4, tinyV_no e5]⟩
  | true =>
    obtain ⟨c1, c2, c3, l1, l2, l3⟩ := tn_facts h
    have hfl : f.length ≤ 120 := ((goodB_iff f).1 h).1.2.1
    have t1 := top_make c1 (by omega)
    have e1 : mkOk [zZ] [negV f] = decide (f.length + 1 ≤ 120) := by
      rw [mk_zero, neg_good h, Bool.true_and, t1]
      show fitsN (tn1 f) = _
      rw [c2.fitsN, l2]
    by_cases hq : f.length + 1 ≤ 120
    · have e2 : mkOk [zZ] [negV f] = true := by rw [e1, decide_eq_true hq]
      have e3 : mkV [zZ] [negV f] = (tn1 f).map upN := by
        rw [mkV_yes e2]
        show (formM (mkD [zeroD] [(negV f).map downN])).map upN = _
        rw [t1]
        rfl
      have t2 := top_make c2 (by omega)
      have e4 : mkOk [zZ] [mkV [zZ] [negV f]] = tinyOk f := by
        rw [e3, mk_zero, c2.goodZ (by omega), Bool.true_and, down_up, t2]
        show fitsN (tn2 f) = _
        rw [c3.fitsN, l3]
        unfold tinyOk
        rw [h, Bool.true_and]
      refine ⟨e4, ?_⟩
      cases ho : tinyOk f with
      | false => rw [mkV_no (by rw [e4, ho]), tinyV_no ho]
      | true =>
        rw [mkV_yes (by rw [e4, ho]), tinyV_yes ho, e3]
        show (formM (mkD [zeroD] [((tn1 f).map upN).map downN])).map upN = _
        rw [down_up, t2]
        rfl
    · have e2 : mkOk [zZ] [negV f] = false := by rw [e1, decide_eq_false hq]
      have e3 : mkV [zZ] [negV f] = [] := mkV_no e2
      have e4 : mkOk [zZ] [mkV [zZ] [negV f]] = false := by rw [e3, mk_zero]; rfl
      have e5 : tinyOk f = false := by unfold tinyOk; rw [h, Bool.true_and, decide_eq_false (by omega)]
      exact ⟨by rw [e4, e5], by rw [mkV_no e4, tinyV_no e5]⟩

theorem tinyV_sz (f : List Nz) : ((tinyV f).map szN).sum ≤ 5760 := by
  cases h : tinyOk f with
  | false => rw [tinyV_no h]; simp
  | true =>
    rw [tinyV_yes h]
    have hg : goodB f = true := by unfold tinyOk at h; rw [Bool.and_eq_true] at h; exact h.1
    have hl : f.length + 2 ≤ 120 := by unfold tinyOk at h; rw [Bool.and_eq_true, decide_eq_true_eq] at h; exact h.2
    obtain ⟨_, _, c3, _, _, l3⟩ := tn_facts hg
    have := sum_szN_le (tn2 f) c3.small
    omega
end

section
set_option linter.unusedVariables false
set_option linter.unusedSimpArgs false
open Go.RowKit

theorem below_viaT {a W b : World} (h : Below a.heap.size a W) (g : Below W.heap.size W b) : Below a.heap.size a b := h.trans (g.mono h.size)
theorem formsZ_oneT {w : World} {B : Nat} {v : Value} {f : List Nz} {lo hi : Nat} (hc : w.cell? ⟨B, 0, none⟩ = some v) (hn : NodesZ w lo hi v f) (h1 : lo ≤ B) (h2 : B < hi) : FormsZ w lo hi (.slice (some ⟨B, 0, none⟩) 1 1) [f] :=
  ⟨_, 1, rfl, ⟨Nat.le_refl _, by simp⟩, fun j g hj => by
    have h0 := get_lt hj
    simp at h0
    subst h0
    simp at hj
    subst hj
    exact ⟨B, 0, v, rfl, h1, h2, hc, hn⟩⟩

set_option maxRecDepth 100000 in
set_option maxHeartbeats 4000000 in
theorem tinyI_calls (va : Value) (f g : List Nz) (ok : Bool) (hok : Hid (tinyOk f = ok)) (hg : Hid (tinyV f = g)) (w : World) (lo hi : Nat) (hh : hi ≤ w.heap.size) (hva : NodesZ w lo hi va f) :
    Calls Try.prog 31 #[.agg #[va]] w fun e w' => ∃ a c vs, e = .returned (.tuple #[.agg #[.slice a g.length c], .bool ok]) ∧ OwnF w' w.heap.size (.slice a g.length c) vs g ∧ Below w.heap.size w w' := by
  obtain ⟨o1, ho1⟩ : ∃ o, mkOk [zZ] [negV f] = o := ⟨_, rfl⟩
  obtain ⟨h1, hh1⟩ : ∃ h, mkV [zZ] [negV f] = h := ⟨_, rfl⟩
  have hst := tiny_steps f
  rw [hh1] at hst
  obtain ⟨n, hn⟩ : ∃ n, negV f = n := ⟨_, rfl⟩
  obtain ⟨og, hog⟩ : ∃ o, goodB f = o := ⟨_, rfl⟩
  rw [hn] at ho1 hh1
  have HST1 := Lib.hid (hst.1.trans hok.out)
  have HST2 := Lib.hid (hst.2.trans hg.out)
  have HO1 := Lib.hid ho1
  have HH1 := Lib.hid hh1
  have HNV := Lib.hid hn
  have HOG := Lib.hid hog
  obtain ⟨ao, c0, rfl⟩ : ∃ ao c, va = .slice ao f.length c := by obtain ⟨ao, c, e, _⟩ := hva; exact ⟨ao, c, e⟩
  have b0 : Below w.heap.size w (w.alloc (.cells #[.slice ao f.length c0] 24)) := (Below.refl _ _).alloc (Nat.le_refl _) _
  have b0' : Below (w.alloc (.cells #[.slice ao f.length c0] 24)).heap.size (w.alloc (.cells #[.slice ao f.length c0] 24)) ((w.alloc (.cells #[.slice ao f.length c0] 24)).alloc (.cells #[.slice none 0 0] 24)) := (Below.refl _ _).alloc (Nat.le_refl _) _
  have HB0 := Lib.hid (below_viaT b0 b0')
  have kf : ((w.alloc (.cells #[.slice ao f.length c0] 24)).alloc (.cells #[.slice none 0 0] 24)).cell? ⟨w.heap.size, 0, none⟩ = some (.slice ao f.length c0) := by go_simp
  have HX0 : Hid (BoxAt ((w.alloc (.cells #[.slice ao f.length c0] 24)).alloc (.cells #[.slice none 0 0] 24)) (w.heap.size + 1) (.slice none 0 0)) := Lib.hid ⟨by go_simp, by go_simp⟩
  have HF0 := Lib.hid (hva.below HB0.out hh)
  have C0 := Lib.hid (nothing_own ((w.alloc (.cells #[.slice ao f.length c0] 24)).alloc (.cells #[.slice none 0 0] 24)))
  have z0 := HB0.out.size
  have KF := Lib.hid kf
  clear ho1 hh1 hst hn hog hva b0 b0' kf hok hg
  go_enter Try.func31, Try.ntmps31
  go_wp2_with fail
  refine C0.out.mono ?_
  rintro e w1 ⟨g0, vs0, rfl, hz0, hb1⟩
  have hL1 : Below w1.heap.size w1 (w1.alloc (.cells #[.slice (some ⟨g0, 0, none⟩) 1 1] 24)) := (Below.refl _ _).alloc (Nat.le_refl _) _
  have b1 := below_viaT hb1 hL1
  have HB1 := Lib.hid (below_viaT HB0.out b1)
  have HX1 := Lib.hid (HX0.out.below b1)
  have HF1 := Lib.hid (HF0.out.below b1 (by omega))
  have kf1 := (bcell b1 _ _ (block_of_cell KF.out)).trans KF.out
  have kz1 : (w1.alloc (.cells #[.slice (some ⟨g0, 0, none⟩) 1 1] 24)).cell? ⟨w1.heap.size, 0, none⟩ = some (.slice (some ⟨g0, 0, none⟩) 1 1) := by go_simp
  have HZ1 : Hid (NodesZ (w1.alloc (.cells #[.slice (some ⟨g0, 0, none⟩) 1 1] 24)) 0 w1.heap.size (.slice (some ⟨g0, 0, none⟩) 1 1) zZ) := Lib.hid ((hz0.nodesZ.below hL1 (Nat.le_refl _)).wide (Nat.zero_le _) (Nat.le_refl _))
  have s1 := b1.size
  have sl1 : w1.heap.size < (w1.alloc (.cells #[.slice (some ⟨g0, 0, none⟩) 1 1] 24)).heap.size := by simp
  have C1 := Lib.hid (negI_calls (.slice ao f.length c0) f n og HOG HNV (w1.alloc (.cells #[.slice (some ⟨g0, 0, none⟩) 1 1] 24)) lo hi (by omega) HF1.out)
  clear hz0 hb1 hL1 b1 C0 HB0 HX0 HF0 KF
  go_wp2_with fail
  refine C1.out.mono ?_
  rintro e w2 ⟨a2, c2, vs2, rfl, hn2, hb2⟩
  have hL2 : Below w2.heap.size w2 (w2.alloc (.cells #[.slice a2 n.length c2] 24)) := (Below.refl _ _).alloc (Nat.le_refl _) _
  have hL3 : Below (w2.alloc (.cells #[.slice a2 n.length c2] 24)).heap.size (w2.alloc (.cells #[.slice a2 n.length c2] 24)) ((w2.alloc (.cells #[.slice a2 n.length c2] 24)).alloc (.cells #[.slice a2 n.length c2] 24)) := (Below.refl _ _).alloc (Nat.le_refl _) _
  have b23 := below_viaT hL2 hL3
  have b2 := below_viaT hb2 b23
  have HB2 := Lib.hid (below_viaT HB1.out b2)
  have HX2 := Lib.hid (HX1.out.below b2)
  have kz2 := (bcell b2 _ _ sl1).trans kz1
  have HZ2 := Lib.hid (HZ1.out.below b2 (by omega))
  have zL2 : (w2.alloc (.cells #[.slice a2 n.length c2] 24)).heap.size = w2.heap.size + 1 := by simp
  have zL3 : ((w2.alloc (.cells #[.slice a2 n.length c2] 24)).alloc (.cells #[.slice a2 n.length c2] 24)).heap.size = w2.heap.size + 2 := by simp
  have kn2 : ((w2.alloc (.cells #[.slice a2 n.length c2] 24)).alloc (.cells #[.slice a2 n.length c2] 24)).cell? ⟨w2.heap.size + 1, 0, none⟩ = some (.slice a2 n.length c2) := by rw [← zL2]; go_simp
  have s2 := hb2.size
  have F1 := formsZ_oneT (hi := w2.heap.size + 2) kz2 (HZ2.out.wide (Nat.le_refl _) (by omega)) (Nat.zero_le _) (by omega)
  have F2 := formsZ_oneT (lo := 0) (hi := w2.heap.size + 2) kn2 (((hn2.nodesZ.below b23 (Nat.le_refl _))).wide (Nat.zero_le _) (by omega)) (Nat.zero_le _) (by omega)
  have C2 := Lib.hid (makeI_calls _ _ [zZ] [n] h1 o1 HO1 HH1 ((w2.alloc (.cells #[.slice a2 n.length c2] 24)).alloc (.cells #[.slice a2 n.length c2] 24)) 0 _ 0 _ (by rw [zL3]; exact Nat.le_refl _) (by rw [zL3]; exact Nat.le_refl _) F1 F2)
  have sz2 : w1.heap.size < ((w2.alloc (.cells #[.slice a2 n.length c2] 24)).alloc (.cells #[.slice a2 n.length c2] 24)).heap.size := by rw [zL3]; omega
  clear hn2 hb2 hL2 hL3 b23 b2 C1 HB1 HX1 HF1 HZ1 kf1 kz1 F1 F2 kn2 zL2 zL3
  go_wp2_with fail
  refine C2.out.mono ?_
  rintro e w3 ⟨a3, c3, vs3, rfl, hn3, hb3⟩
  have hL2 : Below w3.heap.size w3 (w3.alloc (.cells #[.slice a3 h1.length c3] 24)) := (Below.refl _ _).alloc (Nat.le_refl _) _
  have hL3 : Below (w3.alloc (.cells #[.slice a3 h1.length c3] 24)).heap.size (w3.alloc (.cells #[.slice a3 h1.length c3] 24)) ((w3.alloc (.cells #[.slice a3 h1.length c3] 24)).alloc (.cells #[.slice a3 h1.length c3] 24)) := (Below.refl _ _).alloc (Nat.le_refl _) _
  have b23 := below_viaT hL2 hL3
  have b3 := below_viaT hb3 b23
  have HB3 := Lib.hid (below_viaT HB2.out b3)
  have HX3 := Lib.hid (HX2.out.below b3)
  have kz3 := (bcell b3 _ _ sz2).trans kz2
  have HZ3 := Lib.hid (HZ2.out.below b3 (by omega))
  have zL2 : (w3.alloc (.cells #[.slice a3 h1.length c3] 24)).heap.size = w3.heap.size + 1 := by simp
  have zL3 : ((w3.alloc (.cells #[.slice a3 h1.length c3] 24)).alloc (.cells #[.slice a3 h1.length c3] 24)).heap.size = w3.heap.size + 2 := by simp
  have kn3 : ((w3.alloc (.cells #[.slice a3 h1.length c3] 24)).alloc (.cells #[.slice a3 h1.length c3] 24)).cell? ⟨w3.heap.size + 1, 0, none⟩ = some (.slice a3 h1.length c3) := by rw [← zL2]; go_simp
  have s3 := hb3.size
  have F1 := formsZ_oneT (hi := w3.heap.size + 2) kz3 (HZ3.out.wide (Nat.le_refl _) (by omega)) (Nat.zero_le _) (by omega)
  have F2 := formsZ_oneT (lo := 0) (hi := w3.heap.size + 2) kn3 (((hn3.nodesZ.below b23 (Nat.le_refl _))).wide (Nat.zero_le _) (by omega)) (Nat.zero_le _) (by omega)
  have C3 := Lib.hid (makeI_calls _ _ [zZ] [h1] g ok HST1 HST2 ((w3.alloc (.cells #[.slice a3 h1.length c3] 24)).alloc (.cells #[.slice a3 h1.length c3] 24)) 0 _ 0 _ (by rw [zL3]; exact Nat.le_refl _) (by rw [zL3]; exact Nat.le_refl _) F1 F2)
  clear hn3 hb3 hL2 hL3 b23 b3 C2 HB2 HX2 HZ2 kz2 F1 F2 kn3 zL2 zL3 HZ3 kz3
  go_wp2_with fail
  refine C3.out.mono ?_
  rintro e w4 ⟨a4, c4, vs4, rfl, hn4, hb4⟩
  obtain ⟨d4, z4⟩ := HX3.out.below hb4
  have hlt4 := block_of_cell HX3.out.1
  have HO : Hid (OwnF (w4.setCell ⟨w.heap.size + 1, 0, none⟩ (.slice a4 g.length c4)) w.heap.size (.slice a4 g.length c4) vs4 g) := Lib.hid ((hn4.setCell (by show w.heap.size + 1 < _; exact hlt4)).mono HB3.out.size)
  have HB : Hid (Below w.heap.size w (w4.setCell ⟨w.heap.size + 1, 0, none⟩ (.slice a4 g.length c4))) := Lib.hid ((below_viaT HB3.out hb4).setCell (by show w.heap.size ≤ w.heap.size + 1; omega) _)
  have hcr := World.cell?_setCell_same w4 ⟨w.heap.size + 1, 0, none⟩ (.slice a4 g.length c4) d4
  clear hn4 hb4 C3
  go_wp2_with fail
  exact bodyPost_ret (v := .tuple #[.agg #[.slice a4 g.length c4], .bool ok]) (by simp [results, Try.results31, go_sem, hcr]) rfl ⟨a4, c4, vs4, rfl, HO.out, HB.out⟩
end

section
set_option linter.unusedVariables false
set_option linter.unusedSimpArgs false
open Go.RowKit

theorem fit_oneT {U : List Nd} (h : Fit U) : ∀ f ∈ [U], Fit f := fun f hf => by
  rw [List.mem_singleton] at hf
  subst hf
  exact h

set_option maxRecDepth 100000 in
set_option maxHeartbeats 4000000 in
theorem tinyS_calls (va : Value) (f g : List Nz) (ok : Bool) (hok : Hid (tinyOk f = ok)) (hg : Hid (tinyV f = g)) (w : World) (lo hi : Nat) (hh : hi ≤ w.heap.size) (hva : NodesZ w lo hi va f) :
    Calls Try.prog 30 #[.agg #[va]] w fun e w' => ∃ a c, e = .returned (.tuple #[.agg #[.slice a g.length c], .bool ok]) ∧ NodesZ w' w.heap.size w'.heap.size (.slice a g.length c) g ∧ Below w.heap.size w w' := by
  obtain ⟨ao, c0, rfl⟩ : ∃ ao c, va = .slice ao f.length c := by obtain ⟨ao, c, e, _⟩ := hva; exact ⟨ao, c, e⟩
  obtain ⟨og, hog⟩ : ∃ o, goodB f = o := ⟨_, rfl⟩
  have b0 : Below w.heap.size w (w.alloc (.cells #[.slice ao f.length c0] 24)) := (Below.refl _ _).alloc (Nat.le_refl _) _
  have b0' : Below (w.alloc (.cells #[.slice ao f.length c0] 24)).heap.size (w.alloc (.cells #[.slice ao f.length c0] 24)) ((w.alloc (.cells #[.slice ao f.length c0] 24)).alloc (.cells #[.slice none 0 0] 24)) := (Below.refl _ _).alloc (Nat.le_refl _) _
  have HB0 := Lib.hid (below_viaZ b0 b0')
  have KF : Hid (((w.alloc (.cells #[.slice ao f.length c0] 24)).alloc (.cells #[.slice none 0 0] 24)).cell? ⟨w.heap.size, 0, none⟩ = some (.slice ao f.length c0)) := Lib.hid (by go_simp)
  have HX0 : Hid (BoxAt ((w.alloc (.cells #[.slice ao f.length c0] 24)).alloc (.cells #[.slice none 0 0] 24)) (w.heap.size + 1) (.slice none 0 0)) := Lib.hid ⟨by go_simp, by go_simp⟩
  have HF0 := Lib.hid (hva.below HB0.out hh)
  have z0 := HB0.out.size
  have CG := Lib.hid (goodS_res (.slice ao f.length c0) f og (Lib.hid hog) ((w.alloc (.cells #[.slice ao f.length c0] 24)).alloc (.cells #[.slice none 0 0] 24)) lo hi (by omega) HF0.out)
  have HOG := Lib.hid hog
  clear hva b0 b0' hog
  go_enter Try.func30, Try.ntmps30
  go_wp2_with fail
  refine CG.out.mono ?_
  rintro e w1 ⟨rfl, hb1⟩
  have HB1 := Lib.hid (below_viaZ HB0.out hb1)
  have HX1 := Lib.hid (HX0.out.below hb1)
  have HF1 := Lib.hid (HF0.out.below hb1 (by omega))
  have kf1 := (bcell hb1 _ _ (block_of_cell KF.out)).trans KF.out
  have s1 := hb1.size
  clear hb1 CG HB0 HX0 HF0 KF
  cases og with
  | false =>
    obtain rfl : ok = false := by rw [← hok.out]; unfold tinyOk; rw [HOG.out]; rfl
    obtain rfl : g = [] := by rw [← hg.out, tinyV_no hok.out]
    obtain ⟨d1, z1⟩ := HX1.out
    have B4 := Lib.hid (HB1.out.setCell (p := ⟨w.heap.size + 1, 0, none⟩) (by show w.heap.size ≤ w.heap.size + 1; omega) (.slice none 0 0))
    have hcr := World.cell?_setCell_same w1 ⟨w.heap.size + 1, 0, none⟩ (.slice none 0 0) d1
    go_wp2_with fail
    exact bodyPost_ret (v := .tuple #[.agg #[.slice none 0 0], .bool false]) (by simp [results, Try.results30, go_sem, hcr]) rfl ⟨none, 0, rfl, ⟨none, 0, rfl, by simp, fun j nd hj => by simp at hj⟩, B4.out⟩
  | true =>
    obtain ⟨k1, k2, k3, l1, l2, l3⟩ := tn_facts HOG.out
    have hfl : f.length ≤ 120 := ((goodB_iff f).1 HOG.out).1.2.1
    have hft := fit_goodM HOG.out
    have hup := ((goodB_iff f).1 HOG.out).2.1.up.1
    have HT1 : Hid (formM (mkD [zeroD] [(negV f).map downN]) = tn1 f) := Lib.hid (top_make k1 (by omega))
    have HT2 : Hid (formM (mkD [zeroD] [tn1 f]) = tn2 f) := Lib.hid (top_make k2 (by omega))
    have HFN := Lib.hid (k1.fit (by omega))
    have HF1' := Lib.hid (k2.fit (by omega))
    have hoT : tinyOk f = decide ((tn2 f).length ≤ 120) := by unfold tinyOk; rw [HOG.out, Bool.true_and, l3]
    have HFB : Hid (fitsB ((tn2 f).map upN) = ok) := Lib.hid (by rw [← fitsN_B, k3.fitsN, ← hoT]; exact hok.out)
    have HGT : Hid (ok = true → g = (tn2 f).map upN) := Lib.hid (fun h => by rw [← hg.out, tinyV_yes (by rw [hok.out]; exact h)])
    have HGF : Hid (ok = false → g = []) := Lib.hid (fun h => by rw [← hg.out, tinyV_no (by rw [hok.out]; exact h)])
    have CZ := Lib.hid (zeroS_calls w1)
    have HNV : Hid ((formM (swapN (f.map downN))).map upN = ((negV f).map downN).map upN) := Lib.hid (by rw [neg_down HOG.out])
    obtain ⟨ND, hND⟩ : ∃ N, (negV f).map downN = N := ⟨_, rfl⟩
    rw [hND] at HT1 HFN HNV
    obtain ⟨T1, hT1⟩ : ∃ T, tn1 f = T := ⟨_, rfl⟩
    rw [hT1] at HT1 HT2 HF1'
    obtain ⟨T2, hT2⟩ : ∃ T, tn2 f = T := ⟨_, rfl⟩
    rw [hT2] at HT2 HFB HGT
    have HUP := Lib.hid hup
    have HFT := Lib.hid hft
    have ez : (zeroD.map upN).length = 1 := rfl
    clear k1 k2 k3 l1 l2 l3 hT1 hT2 hND hup hft hoT hok hg
    go_wp2_with fail
    refine CZ.out.mono ?_
    rintro e w2 ⟨a2, c2, rfl, hn2, hb2⟩
    rw [ez]
    rw [ez] at hn2
    have hL : Below w2.heap.size w2 (w2.alloc (.cells #[.slice a2 1 c2] 24)) := (Below.refl _ _).alloc (Nat.le_refl _) _
    have b2 := below_viaZ hb2 hL
    have s2 := hb2.size
    have HB2 := Lib.hid (below_viaZ HB1.out b2)
    have HX2 := Lib.hid (HX1.out.below b2)
    have HF2 := Lib.hid (HF1.out.below b2 (by omega))
    have kf2 := (bcell b2 _ _ (block_of_cell kf1)).trans kf1
    have kz2 : (w2.alloc (.cells #[.slice a2 1 c2] 24)).cell? ⟨w2.heap.size, 0, none⟩ = some (.slice a2 1 c2) := by go_simp
    have HZ2 := Lib.hid (((hn2.below hL (Nat.le_refl _))).wide (lo' := 0) (hi' := w2.heap.size) (Nat.zero_le _) (Nat.le_refl _))
    have sL2 : w2.heap.size < (w2.alloc (.cells #[.slice a2 1 c2] 24)).heap.size := by simp
    have CN := Lib.hid (l5Neg_calls (.slice ao f.length c0) (f.map downN) (w2.alloc (.cells #[.slice a2 1 c2] 24)) lo hi (by omega) (by rw [HUP.out]; exact HF2.out) HFT.out.under HFT.out.pos (by have := HFT.out.most; omega) (fun nd hnd => by have := HFT.out.small nd hnd; omega))
    rw [HNV.out] at CN
    clear hn2 hb2 hL b2 CZ HB1 HX1 HF1 kf1
    go_wp2_with fail
    refine CN.out.mono ?_
    rintro e w3 ⟨v3, rfl, hn3, hb3⟩
    obtain ⟨a3, c3, hve3⟩ : ∃ a c, v3 = .slice a ND.length c := by obtain ⟨a, c, e, _⟩ := hn3; exact ⟨a, c, by rw [e, List.length_map]⟩
    subst hve3
    have hL3 : Below w3.heap.size w3 (w3.alloc (.cells #[.slice a3 ND.length c3] 24)) := (Below.refl _ _).alloc (Nat.le_refl _) _
    have b3 := below_viaZ hb3 hL3
    have HB3 := Lib.hid (below_viaZ HB2.out b3)
    have HX3 := Lib.hid (HX2.out.below b3)
    have kz3 := (bcell b3 _ _ sL2).trans kz2
    have HZ3 := Lib.hid (HZ2.out.below b3 (by omega))
    have zL3 : (w3.alloc (.cells #[.slice a3 ND.length c3] 24)).heap.size = w3.heap.size + 1 := by simp
    have kn3 : (w3.alloc (.cells #[.slice a3 ND.length c3] 24)).cell? ⟨w3.heap.size, 0, none⟩ = some (.slice a3 ND.length c3) := by go_simp
    have s3 := hb3.size
    have F1 := formsZ_one (hi := w3.heap.size + 1) kz3 (HZ3.out.wide (Nat.le_refl _) (by omega)) (Nat.zero_le _) (by omega)
    have F2 := formsZ_one (lo := 0) (hi := w3.heap.size + 1) kn3 ((hn3.below hL3 (Nat.le_refl _)).wide (Nat.zero_le _) (by omega)) (Nat.zero_le _) (by omega)
    have CM := Lib.hid (l3Make_calls _ _ [zeroD] [ND] (w3.alloc (.cells #[.slice a3 ND.length c3] 24)) 0 _ 0 _ (by rw [zL3]; exact Nat.le_refl _) (by rw [zL3]; exact Nat.le_refl _) F1 F2 (fit_oneT zero_fit) (fit_oneT HFN.out) (by simp) (by simp))
    rw [HT1.out] at CM
    have sz3 : w2.heap.size < (w3.alloc (.cells #[.slice a3 ND.length c3] 24)).heap.size := by rw [zL3]; omega
    clear hn3 hb3 hL3 b3 CN HB2 HX2 HF2 kf2 F1 F2 kn3 kz2 HZ2 zL3
    go_wp2_with fail
    refine CM.out.mono ?_
    rintro e w4 ⟨v4, rfl, hn4, hb4⟩
    obtain ⟨a4, c4, hve4⟩ : ∃ a c, v4 = .slice a T1.length c := by obtain ⟨a, c, e, _⟩ := hn4; exact ⟨a, c, by rw [e, List.length_map]⟩
    subst hve4
    have hL4 : Below w4.heap.size w4 (w4.alloc (.cells #[.slice a4 T1.length c4] 24)) := (Below.refl _ _).alloc (Nat.le_refl _) _
    have b4 := below_viaZ hb4 hL4
    have HB4 := Lib.hid (below_viaZ HB3.out b4)
    have HX4 := Lib.hid (HX3.out.below b4)
    have kz4 := (bcell b4 _ _ sz3).trans kz3
    have HZ4 := Lib.hid (HZ3.out.below b4 (by omega))
    have zL4 : (w4.alloc (.cells #[.slice a4 T1.length c4] 24)).heap.size = w4.heap.size + 1 := by simp
    have kn4 : (w4.alloc (.cells #[.slice a4 T1.length c4] 24)).cell? ⟨w4.heap.size, 0, none⟩ = some (.slice a4 T1.length c4) := by go_simp
    have s4 := hb4.size
    have F1 := formsZ_one (hi := w4.heap.size + 1) kz4 (HZ4.out.wide (Nat.le_refl _) (by omega)) (Nat.zero_le _) (by omega)
    have F2 := formsZ_one (lo := 0) (hi := w4.heap.size + 1) kn4 ((hn4.below hL4 (Nat.le_refl _)).wide (Nat.zero_le _) (by omega)) (Nat.zero_le _) (by omega)
    have CM2 := Lib.hid (l3Make_calls _ _ [zeroD] [T1] (w4.alloc (.cells #[.slice a4 T1.length c4] 24)) 0 _ 0 _ (by rw [zL4]; exact Nat.le_refl _) (by rw [zL4]; exact Nat.le_refl _) F1 F2 (fit_oneT zero_fit) (fit_oneT HF1'.out) (by simp) (by simp))
    rw [HT2.out] at CM2
    clear hn4 hb4 hL4 b4 CM HB3 HX3 F1 F2 kn4 kz3 HZ3 zL4 HZ4 kz4
    go_wp2_with fail
    refine CM2.out.mono ?_
    rintro e w5 ⟨v5, rfl, hn5, hb5⟩
    have HB5 := Lib.hid (below_viaZ HB4.out hb5)
    have HX5 := Lib.hid (HX4.out.below hb5)
    have HN5 := Lib.hid hn5
    have CI := Lib.hid (l3If_calls v5 (T2.map upN) ok HFB w5 _ _ (Nat.le_refl _) hn5)
    obtain ⟨a5, c5, hve5⟩ : ∃ a c, v5 = .slice a (T2.map upN).length c := by obtain ⟨a, c, e, _⟩ := hn5; exact ⟨a, c, e⟩
    obtain ⟨nv, hnv⟩ : ∃ n, (T2.map upN).length = n := ⟨_, rfl⟩
    rw [hnv] at hve5
    subst hve5
    have HNV2 := Lib.hid hnv
    have hlt4 := block_of_cell HX4.out.1
    have s5 := hb5.size
    clear hn5 hb5 CM2 hnv
    go_wp2_with fail
    refine CI.out.mono ?_
    rintro e w6 ⟨rfl, hb6⟩
    obtain ⟨d6, z6⟩ := HX5.out.below hb6
    have HB6 := Lib.hid (below_viaZ HB5.out hb6)
    have HN6 := Lib.hid (HN5.out.below hb6 (Nat.le_refl _))
    have s6 := hb6.size
    have sB := HB4.out.size
    clear hb6 CI HN5
    cases ok with
    | false =>
      obtain rfl := HGF.out rfl
      have B4 := Lib.hid (HB6.out.setCell (p := ⟨w.heap.size + 1, 0, none⟩) (by show w.heap.size ≤ w.heap.size + 1; omega) (.slice none 0 0))
      have hcr := World.cell?_setCell_same w6 ⟨w.heap.size + 1, 0, none⟩ (.slice none 0 0) d6
      go_wp2_with fail
      exact bodyPost_ret (v := .tuple #[.agg #[.slice none 0 0], .bool false]) (by simp [results, Try.results30, go_sem, hcr]) rfl ⟨none, 0, rfl, ⟨none, 0, rfl, by simp, fun j nd hj => by simp at hj⟩, B4.out⟩
    | true =>
      have hgT := HGT.out rfl
      have HL : Hid (nv = g.length) := Lib.hid (by rw [hgT]; exact HNV2.out.symm)
      have B4 := Lib.hid (HB6.out.setCell (p := ⟨w.heap.size + 1, 0, none⟩) (by show w.heap.size ≤ w.heap.size + 1; omega) (.slice a5 nv c5))
      have HN : Hid (NodesZ (w6.setCell ⟨w.heap.size + 1, 0, none⟩ (.slice a5 nv c5)) w.heap.size (w6.setCell ⟨w.heap.size + 1, 0, none⟩ (.slice a5 nv c5)).heap.size (.slice a5 nv c5) g) := Lib.hid (by
        rw [hgT]
        exact ((NodesZ.keep HN6.out (fun b o h1 h2 => World.cell?_setCell_other _ _ _ _ (fun e => by injection e with e _ _; omega))).wide (by omega) (by simp; omega)))
      have hcr := World.cell?_setCell_same w6 ⟨w.heap.size + 1, 0, none⟩ (.slice a5 nv c5) d6
      clear hgT HN6 HGT HGF HFB
      go_wp2_with fail
      refine bodyPost_ret (v := .tuple #[.agg #[.slice a5 nv c5], .bool true]) (by simp [results, Try.results30, go_sem, hcr]) rfl ⟨a5, c5, ?_, ?_, B4.out⟩
      · rw [← HL.out]
      · rw [← HL.out]; exact HN.out
end

end Go.Proofs.Ytgbpnegdoilfnaa
