/- The model's l3Opts and OptionsOf. -/
import Derived.Test.YtlhpkoaegldjdaaFmForms
import Derived.Test.YtlhpkoaegldjdaaFmOptT
import Derived.Test.YtlhpkoaegldjdaaFmPartS
import Derived.Test.YtlhpkoaegldjdaaFmSnoc
import Derived.Maps.AppendAt
namespace Go.Proofs.Ytlhpkoaegldjdaa
open Go.RowKit
set_option linter.unusedVariables false
set_option linter.unusedSimpArgs false

/-- an append of a form, at a step of a region that draws; and where it lies -/
theorem step_app_fm {ops : Array Oper} {o : Oper} {a : Act} {w : World} {K : Act → World → Prop} {Q : Exit → Act → World → Prop} {E : Prop} (hgd : o.guard = none) (s x : Operand)
    (ho : o.op = .call { callee := .builtin .append, args := #[s, x], argTypes := #[29, 29] })
    {base : Nat} {v : Value} {n : Nat} {xs : List Value} (hown : w.ownsRow base 26 1 v n xs) (hs : a.eval s = v) {B : Nat} {u : Value} (hc : w.cell? ⟨B, 0, none⟩ = some u) (hu : u.oneCell' = true) (hx : a.eval x = .slice (some ⟨B, 0, none⟩) 1 1)
    (hsmall : n + 1 ≤ 3000000) (hbase : base ≤ w.heap.size)
    (h : ∀ v' w', w'.ownsRow base 26 1 v' (n + 1) (xs ++ [u]) → w.grownBy w' v.ownBlock → (v'.ownBlock = v.ownBlock ∨ v'.ownBlock = some w.heap.size) → K (a.put o.dst v') w') :
    if Region.wanted o (yielded ops a.tmps) = true then Oper.wp Try.prog o a w K Q else E := by
  obtain ⟨i0, hi0, hz0, hz1, hz2⟩ := info_parts infoFormA
  have hw : Region.wanted o (yielded ops a.tmps) = true := by simp [Region.wanted, hgd]
  rw [if_pos hw]
  have hc2 : ∀ (j : Nat) (u' : Value), [u][j]? = some u' → w.cell? ((⟨B, 0, none⟩ : Addr).add j) = some u' := fun j u' hj => by
    match j, hj with
    | 0, hj =>
      simp at hj
      subst hj
      simpa [Addr.add] using hc
  obtain ⟨v', w', hr, h2, h3, _, h5⟩ := run_append_own_at (P := Try.prog) w base 29 o.type 26 i0 (.agg #[.slice none 0 0]) 1 24 Try.underlying29 hi0 hz0 hz1 hz2 rfl (by decide) v n xs hown ⟨B, 0, none⟩ 1 1 [u] rfl hc2 (fun u' hu' => by simp at hu'; subst hu'; exact hu) (by unfold maxLen; omega) (by omega) hbase
  unfold Oper.wp execOp
  simp only [ho, resolve, invoke, builtin, Sem.run_bind, Sem.run_pure, Result.andThen_ok, List.map_toArray, List.map_cons, List.map_nil, hs, hx, hr]
  exact h v' w' h2 h3 h5

/-- a row of forms that grows; X: what may be written later on -/
def RowFs (w : World) (base : Nat) (v : Value) (X : Nat → Prop) (Fs : List (List Nz)) : Prop := ∃ vals : List Value, w.ownsRow base 26 1 v Fs.length vals ∧ vals.length = Fs.length ∧ ∀ (j : Nat) (f : List Nz) (vf : Value), Fs[j]? = some f → vals[j]? = some vf → ∃ lo hi, base ≤ lo ∧ hi ≤ w.heap.size ∧ NodesZ w lo hi vf f ∧ ∀ b, lo ≤ b → b < hi → ¬ X b

theorem RowFs.only {w w' : World} {base : Nat} {v : Value} {X F : Nat → Prop} {Fs : List (List Nz)} (h : RowFs w base v X Fs) (ho : Only w w' F) (hF : ∀ b, b < w.heap.size → F b → X b) (hv : ∀ g, v.ownBlock = some g → ¬ F g) : RowFs w' base v X Fs := by
  obtain ⟨vals, h1, h2, h3⟩ := h
  refine ⟨vals, own_only h1 ho hv, h2, fun j f vf hj hvf => ?_⟩
  obtain ⟨lo, hi, k1, k2, k3, k4⟩ := h3 j f vf hj hvf
  exact ⟨lo, hi, k1, Nat.le_trans k2 ho.size, k3.keep (fun b o h1 h2 => ho.cell (by omega) (fun hb => k4 b h1 h2 (hF b (by omega) hb))), k4⟩
theorem RowFs.below {w w' : World} {base : Nat} {v : Value} {X : Nat → Prop} {Fs : List (List Nz)} (h : RowFs w base v X Fs) (hb : Below w.heap.size w w') : RowFs w' base v X Fs := h.only (Only.of_below (F := fun _ => False) hb) (fun _ _ h => h.elim) (fun _ _ => id)
theorem RowFs.reX {w : World} {base : Nat} {v : Value} {X Y : Nat → Prop} {Fs : List (List Nz)} (h : RowFs w base v X Fs) (hs : ∀ b, b < w.heap.size → Y b → X b) : RowFs w base v Y Fs := by
  obtain ⟨vals, h1, h2, h3⟩ := h
  refine ⟨vals, h1, h2, fun j f vf hj hvf => ?_⟩
  obtain ⟨lo, hi, k1, k2, k3, k4⟩ := h3 j f vf hj hvf
  exact ⟨lo, hi, k1, k2, k3, fun b h1 h2 h3 => k4 b h1 h2 (hs b (by omega) h3)⟩
theorem RowFs.lt {w : World} {base : Nat} {v : Value} {X : Nat → Prop} {Fs : List (List Nz)} (h : RowFs w base v X Fs) : ∀ g, v.ownBlock = some g → base ≤ g ∧ g < w.heap.size := by obtain ⟨_, h, _⟩ := h; exact World.ownsRow.lt h
theorem RowFs.shape {w : World} {base : Nat} {v : Value} {X : Nat → Prop} {Fs : List (List Nz)} (h : RowFs w base v X Fs) : ∃ a c, v = .slice a Fs.length c := by
  obtain ⟨vals, h, _⟩ := h
  rcases h.2 with ⟨h1, h0⟩ | ⟨g, c, cs, h1, _⟩
  · exact ⟨none, 0, by rw [h1, h0]⟩
  · exact ⟨_, _, h1⟩

theorem RowFs.formsZ {w : World} {base : Nat} {v : Value} {X : Nat → Prop} {Fs : List (List Nz)} (h : RowFs w base v X Fs) : FormsZ w base w.heap.size v Fs := by
  obtain ⟨vals, h1, h2, h3⟩ := h
  rcases h1.2 with ⟨e1, h0⟩ | ⟨g, c, cs, e1, _⟩
  · have hl : Fs = [] := List.length_eq_zero_iff.1 h0
    subst hl
    exact ⟨none, 0, by rw [e1]; rfl, by simp, fun j f hj => by simp at hj⟩
  · subst e1
    have hlt := World.ownsRow.lt h1 _ rfl
    refine ⟨_, _, rfl, World.ownsRow.caps h1, fun j f hj => ?_⟩
    obtain ⟨vf, hvf⟩ := lt_get (l := vals) (i := j) (by rw [h2]; exact get_lt hj)
    obtain ⟨lo, hi, k1, k2, k3, _⟩ := h3 j f vf hj hvf
    exact ⟨g, 0, vf, rfl, hlt.1, hlt.2, by rw [Nat.zero_add, World.ownsRow.cellAt h1 j (by have := get_lt hj; omega), hvf], k3.wide k1 k2⟩

/-- the two rows that the model's l3Opts builds: q grows, r stands -/
structure Two (w : World) (base : Nat) (q r : Value) (Fq Fr : List (List Nz)) : Prop where
  hq : RowFs w base q (fun b => q.ownBlock = some b ∨ r.ownBlock = some b) Fq
  hr : RowFs w base r (fun b => q.ownBlock = some b ∨ r.ownBlock = some b) Fr
  ne : ∀ g, q.ownBlock = some g → r.ownBlock ≠ some g

theorem Two.below {w w' : World} {base : Nat} {q r : Value} {Fq Fr : List (List Nz)} (h : Two w base q r Fq Fr) (hb : Below w.heap.size w w') : Two w' base q r Fq Fr := ⟨h.hq.below hb, h.hr.below hb, h.ne⟩
theorem Two.swap {w : World} {base : Nat} {q r : Value} {Fq Fr : List (List Nz)} (h : Two w base q r Fq Fr) : Two w base r q Fr Fq := ⟨h.hr.reX (fun b _ h => h.symm), h.hq.reX (fun b _ h => h.symm), fun g h1 h2 => h.ne g h2 h1⟩

theorem Two.push {w w' : World} {base : Nat} {q q' r vf : Value} {vals : List Value} {f : List Nz} {Fq Fr : List (List Nz)} {lo hi : Nat} (h : Two w base q r Fq Fr) (h1 : w.ownsRow base 26 1 q Fq.length vals) (h2 : vals.length = Fq.length)
    (h3 : ∀ (j : Nat) (f : List Nz) (vf : Value), Fq[j]? = some f → vals[j]? = some vf → ∃ lo hi, base ≤ lo ∧ hi ≤ w.heap.size ∧ NodesZ w lo hi vf f ∧ ∀ b, lo ≤ b → b < hi → ¬ (q.ownBlock = some b ∨ r.ownBlock = some b))
    (hlo : base ≤ lo) (hhi : hi ≤ w.heap.size) (hv : NodesZ w lo hi vf f) (hx : ∀ b, lo ≤ b → b < hi → ¬ (q.ownBlock = some b ∨ r.ownBlock = some b))
    (hown : w'.ownsRow base 26 1 q' (Fq.length + 1) (vals ++ [vf])) (hg : w.grownBy w' q.ownBlock) (hat : q'.ownBlock = q.ownBlock ∨ q'.ownBlock = some w.heap.size) : Two w' base q' r (Fq ++ [f]) Fr := by
  have ho : Only w w' (fun b => q.ownBlock = some b) := Only.of_grown hg (fun g e => e)
  have hX : ∀ b, b < w.heap.size → (q'.ownBlock = some b ∨ r.ownBlock = some b) → (q.ownBlock = some b ∨ r.ownBlock = some b) := fun b hb e => by
    rcases e with e | e
    · rcases hat with e2 | e2
      · exact Or.inl (e2 ▸ e)
      · rw [e2] at e
        injection e with e
        omega
    · exact Or.inr e
  have keep : ∀ {lo hi : Nat} {vf : Value} {f : List Nz}, hi ≤ w.heap.size → NodesZ w lo hi vf f → (∀ b, lo ≤ b → b < hi → ¬ (q.ownBlock = some b ∨ r.ownBlock = some b)) → NodesZ w' lo hi vf f := fun hh hz hn => hz.keep (fun b o h1 h2 => ho.cell (by omega) (fun e => hn b h1 h2 (Or.inl e)))
  refine ⟨⟨vals ++ [vf], by rw [List.length_append]; exact hown, by simp [h2], fun j f1 v1 hj hv1 => ?_⟩, ?_, fun g e1 e2 => ?_⟩
  · rcases get_snoc hj with hj1 | ⟨ej, e3⟩
    · rcases get_snoc hv1 with hv2 | ⟨e4, _⟩
      · obtain ⟨l, u, k1, k2, k3, k4⟩ := h3 j f1 v1 hj1 hv2
        exact ⟨l, u, k1, Nat.le_trans k2 ho.size, keep k2 k3 k4, fun b b1 b2 e => k4 b b1 b2 (hX b (by omega) e)⟩
      · have := get_lt hj1
        omega
    · rcases get_snoc hv1 with hv2 | ⟨_, e4⟩
      · have := get_lt hv2
        omega
      · rw [e3, e4]
        exact ⟨lo, hi, hlo, Nat.le_trans hhi ho.size, keep hhi hv hx, fun b b1 b2 e => hx b b1 b2 (hX b (by omega) e)⟩
  · obtain ⟨vr, r1, r2, r3⟩ := h.hr.only ho (fun b _ e => Or.inl e) (fun g e1 e2 => h.ne g e2 e1)
    obtain ⟨vr0, s1, s2, s3⟩ := h.hr
    refine ⟨vr0, own_only s1 ho (fun g e1 e2 => h.ne g e2 e1), s2, fun j f1 v1 hj hv1 => ?_⟩
    obtain ⟨l, u, k1, k2, k3, k4⟩ := s3 j f1 v1 hj hv1
    exact ⟨l, u, k1, Nat.le_trans k2 ho.size, keep k2 k3 k4, fun b b1 b2 e => k4 b b1 b2 (hX b (by omega) e)⟩
  · rcases hat with e3 | e3
    · exact h.ne g (e3 ▸ e1) e2
    · rw [e3] at e1
      injection e1 with e1
      have := h.hr.lt g e2
      omega

theorem partsF_take (f : List Nz) (L : List Nat) (k x : Nat) (h : L[k]? = some x) : partsF f (L.take (k + 1)) = partsF f (L.take k) ++ [(partI (f.map downN) x).map upN] := by
  unfold partsF
  rw [List.take_add_one, h, List.map_append]
  rfl

theorem opt3_only {w w' : World} {b c d o o' : Nat} {v1 v2 v3 : Value} {F : Nat → Prop} (h : w.cell? ⟨b, 0, none⟩ = some v1 ∧ w.cell? ⟨c, o', none⟩ = some v2 ∧ w.cell? ⟨d, o, none⟩ = some v3) (ho : Only w w' F) (n1 : ¬ F b) (n2 : ¬ F c) (n3 : ¬ F d) : w'.cell? ⟨b, 0, none⟩ = some v1 ∧ w'.cell? ⟨c, o', none⟩ = some v2 ∧ w'.cell? ⟨d, o, none⟩ = some v3 :=
  ⟨(ho.cell (block_of_cell h.1) n1).trans h.1, (ho.cell (block_of_cell h.2.1) n2).trans h.2.1, (ho.cell (block_of_cell h.2.2) n3).trans h.2.2⟩
theorem opt3_below {w w' : World} {b c d o o' : Nat} {v1 v2 v3 : Value} (h : w.cell? ⟨b, 0, none⟩ = some v1 ∧ w.cell? ⟨c, o', none⟩ = some v2 ∧ w.cell? ⟨d, o, none⟩ = some v3) (hB : Below w.heap.size w w') : w'.cell? ⟨b, 0, none⟩ = some v1 ∧ w'.cell? ⟨c, o', none⟩ = some v2 ∧ w'.cell? ⟨d, o, none⟩ = some v3 := opt3_only h (Only.of_below (F := fun _ => False) hB) id id id

set_option maxRecDepth 100000 in
set_option maxHeartbeats 4000000 in
theorem l3Opts_calls (va : Value) (f : List Nz) (w : World) (lo hi : Nat) (hh : hi ≤ w.heap.size) (hva : NodesZ w lo hi va f) (hg : goodB f = true) :
    Calls Try.prog 62 #[.agg #[va]] w fun e w' => ∃ v1 v2, e = .returned (.tuple #[v1, v2]) ∧ FormsZ w' w.heap.size w'.heap.size v1 (partsF f (lastN f).1) ∧ FormsZ w' w.heap.size w'.heap.size v2 (partsF f (lastN f).2) ∧ Below w.heap.size w w' := by
  obtain ⟨hf1, hf2, _⟩ := (goodB_iff f).1 hg
  have e1 : (f.map downN).length = f.length := by simp
  have l0 := hf1.1
  have l1 := hf1.2.1
  have hsm := lastN_small hg
  have hlt := Lib.hid (fun x => lastN_lt hg x)
  have C := Lib.hid fun (W : World) (hW : Below w.heap.size w W) (i : Nat) (hi' : i < f.length) => show Calls Try.prog 69 #[.agg #[va], .int .i64 (i : Int)] W fun e w' => ∃ a c, e = .returned (.agg #[.slice a ((partI (f.map downN) i).map upN).length c]) ∧ NodesZ w' W.heap.size w'.heap.size (.slice a ((partI (f.map downN) i).map upN).length c) ((partI (f.map downN) i).map upN) ∧ Below W.heap.size W w' from
    (l3Part_calls va f i W lo hi (Nat.le_trans hh hW.size) (hva.below hW hh) hg hi').mono fun e w' ⟨v, he, hn, hb⟩ => by
      obtain ⟨a, c, e1, hx⟩ := hn
      subst e1
      exact ⟨a, c, he, ⟨a, c, rfl, hx⟩, hb⟩
  have HVN := Lib.hid fun (W : World) (hW : Below w.heap.size w W) => nodes_atP (w := W) (lo := lo) (hi := hi) (v := va) (by rw [hf2.up.1]; exact hva.below hW hh) (lastN_at l0)
  rw [e1] at HVN
  obtain ⟨ao, c0, rfl⟩ : ∃ ao c, va = .slice ao f.length c := by obtain ⟨ao, c, e, _⟩ := hva; exact ⟨ao, c, e⟩
  have hn1 : IntKind.i64.wrap ((f.length : Int) - 1) = ((f.length - 1 : Nat) : Int) := by rw [IntWalk.i64_in _ (by omega)]; omega
  have hn2 : ((f.length - 1 : Nat) : Int) < f.length := by omega
  have HP : Hid (∀ L, partsF f L = L.map (fun x => (partI (f.map downN) x).map upN)) := Lib.hid (fun L => rfl)
  generalize lastN f = nd at hsm hlt HVN ⊢
  clear hva hf1 hf2 e1 hg
  have BX : Hid (Below w.heap.size w (((w.alloc (.cells #[.slice ao f.length c0] 26)).alloc (.cells #[] 26)).alloc (.cells #[] 26))) := Lib.hid ((((Below.refl _ _).alloc (Nat.le_refl _) _).alloc (by simp) _).alloc (by simp; omega) _)
  obtain ⟨b, off, cc, v1, v2, e, hbh, p1, p2, i1, i2⟩ := HVN.out _ BX.out
  obtain ⟨q1, _, q3⟩ := slice_inj e
  subst q1 q3
  obtain ⟨a1, d1, rfl, hd1⟩ := ints_lenP i1
  obtain ⟨a2, d2, rfl, hd2⟩ := ints_lenP i2
  clear e
  go_enter Try.func62, Try.ntmps62
  have BW : Hid (Below w.heap.size w ((((w.alloc (.cells #[.slice (some ⟨b, off, none⟩) f.length c0] 26)).alloc (.cells #[] 26)).alloc (.cells #[] 26)).alloc (.cells #[.slice a1 nd.1.length d1, .slice a2 nd.2.length d2] 70))) := Lib.hid (BX.out.alloc (by simp; omega) _)
  have bz : Below ((((w.alloc (.cells #[.slice (some ⟨b, off, none⟩) f.length c0] 26)).alloc (.cells #[] 26)).alloc (.cells #[] 26))).heap.size ((((w.alloc (.cells #[.slice (some ⟨b, off, none⟩) f.length c0] 26)).alloc (.cells #[] 26)).alloc (.cells #[] 26))) ((((w.alloc (.cells #[.slice (some ⟨b, off, none⟩) f.length c0] 26)).alloc (.cells #[] 26)).alloc (.cells #[] 26)).alloc (.cells #[.slice a1 nd.1.length d1, .slice a2 nd.2.length d2] 70)) := (Below.refl _ _).alloc (Nat.le_refl _) _
  have I1 := Lib.hid (i1.below bz (by simp; omega))
  have I2 := Lib.hid (i2.below bz (by simp; omega))
  have hsz0 : (((((w.alloc (.cells #[.slice (some ⟨b, off, none⟩) f.length c0] 26)).alloc (.cells #[] 26)).alloc (.cells #[] 26)).alloc (.cells #[.slice a1 nd.1.length d1, .slice a2 nd.2.length d2] 70))).heap.size = w.heap.size + 4 := by simp
  have m0 : (((((w.alloc (.cells #[.slice (some ⟨b, off, none⟩) f.length c0] 26)).alloc (.cells #[] 26)).alloc (.cells #[] 26)).alloc (.cells #[.slice a1 nd.1.length d1, .slice a2 nd.2.length d2] 70))).cell? ⟨w.heap.size, 0, none⟩ = some (.slice (some ⟨b, off, none⟩) f.length c0) := by go_simp
  have m1 : (((((w.alloc (.cells #[.slice (some ⟨b, off, none⟩) f.length c0] 26)).alloc (.cells #[] 26)).alloc (.cells #[] 26)).alloc (.cells #[.slice a1 nd.1.length d1, .slice a2 nd.2.length d2] 70))).cell? ⟨w.heap.size + 1 + 1 + 1, 0, none⟩ = some (.slice a1 nd.1.length d1) := by go_simp
  have m2 : (((((w.alloc (.cells #[.slice (some ⟨b, off, none⟩) f.length c0] 26)).alloc (.cells #[] 26)).alloc (.cells #[] 26)).alloc (.cells #[.slice a1 nd.1.length d1, .slice a2 nd.2.length d2] 70))).cell? ⟨w.heap.size + 1 + 1 + 1, 1, none⟩ = some (.slice a2 nd.2.length d2) := by go_simp
  have lit : ∀ (W : World) (X : Nat → Prop), W.ownsRow w.heap.size 26 1 (.slice (some ⟨W.heap.size - 1, 0, none⟩) 0 0) 0 [] → RowFs W w.heap.size (.slice (some ⟨W.heap.size - 1, 0, none⟩) 0 0) X [] := fun W X h => ⟨[], h, rfl, fun j f vf hj => by simp at hj⟩
  have T0 : Hid (Two ((((w.alloc (.cells #[.slice (some ⟨b, off, none⟩) f.length c0] 26)).alloc (.cells #[] 26)).alloc (.cells #[] 26)).alloc (.cells #[.slice a1 nd.1.length d1, .slice a2 nd.2.length d2] 70)) w.heap.size (.slice (some ⟨w.heap.size + 1, 0, none⟩) 0 0) (.slice (some ⟨w.heap.size + 1 + 1, 0, none⟩) 0 0) [] []) := Lib.hid (by
    have h1 := World.ownsRow_lit (base := w.heap.size) (e := 26) (size := 1) (w.alloc (.cells #[.slice (some ⟨b, off, none⟩) f.length c0] 26)) #[] 0 (by simp) (by unfold maxLen; omega) rfl
    rw [show (w.alloc (.cells #[.slice (some ⟨b, off, none⟩) f.length c0] 26)).heap.size = w.heap.size + 1 from by simp] at h1
    have h2 := World.ownsRow_lit (base := w.heap.size) (e := 26) (size := 1) ((w.alloc (.cells #[.slice (some ⟨b, off, none⟩) f.length c0] 26)).alloc (.cells #[] 26)) #[] 0 (by simp; omega) (by unfold maxLen; omega) rfl
    rw [show ((w.alloc (.cells #[.slice (some ⟨b, off, none⟩) f.length c0] 26)).alloc (.cells #[] 26)).heap.size = w.heap.size + 1 + 1 from by simp] at h2
    exact ⟨⟨[], World.ownsRow.alloc (World.ownsRow.alloc h1 _) _, rfl, fun j f vf hj => by simp at hj⟩, ⟨[], World.ownsRow.alloc h2 _, rfl, fun j f vf hj => by simp at hj⟩, fun g e1 e2 => by
      have := own_eqp e1
      have := own_eqp e2
      omega⟩)
  have Q0 : Hid (∀ g, (Value.slice (some ⟨w.heap.size + 1, 0, none⟩) 0 0).ownBlock = some g → g ≠ w.heap.size ∧ g ≠ w.heap.size + 1 + 1 + 1) := Lib.hid (fun g e => by have := own_eqp e; omega)
  have R0 : Hid (∀ g, (Value.slice (some ⟨w.heap.size + 1 + 1, 0, none⟩) 0 0).ownBlock = some g → g ≠ w.heap.size ∧ g ≠ w.heap.size + 1 + 1 + 1) := Lib.hid (fun g e => by have := own_eqp e; omega)
  clear lit bz i1 i2 BX HVN
  go_wp2
  clear p1 p2
  generalize ((((w.alloc (.cells #[.slice (some ⟨b, off, none⟩) f.length c0] 26)).alloc (.cells #[] 26)).alloc (.cells #[] 26)).alloc (.cells #[.slice a1 nd.1.length d1, .slice a2 nd.2.length d2] 70)) = W0 at BW I1 I2 hsz0 m0 m1 m2 T0 ⊢
  go_loopw [4, 7] (fun q i wr => ∃ k : Nat, k ≤ nd.1.length ∧ i = .int .i64 (k : Int) ∧ Hid (Two wr w.heap.size q (.slice (some ⟨w.heap.size + 1 + 1, 0, none⟩) 0 0) (partsF f (nd.1.take k)) []) ∧ Hid (∀ g, q.ownBlock = some g → g ≠ w.heap.size ∧ g ≠ w.heap.size + 1 + 1 + 1) ∧ Hid (Below w.heap.size w wr) ∧ w.heap.size + 4 ≤ wr.heap.size ∧ wr.cell? ⟨w.heap.size, 0, none⟩ = some (.slice (some ⟨b, off, none⟩) f.length c0) ∧ wr.cell? ⟨w.heap.size + 1 + 1 + 1, 0, none⟩ = some (.slice a1 nd.1.length d1) ∧ wr.cell? ⟨w.heap.size + 1 + 1 + 1, 1, none⟩ = some (.slice a2 nd.2.length d2) ∧ Hid (IntsZ wr lo hi (.slice a1 nd.1.length d1) (upL nd.1)) ∧ Hid (IntsZ wr lo hi (.slice a2 nd.2.length d2) (upL nd.2))) (fun _ i _ => nd.1.length - (intOf i).toNat)
  case atStart => exact ⟨0, Nat.zero_le _, rfl, by rw [List.take_zero]; exact T0, Q0, BW, by omega, m0, m1, m2, I1, I2⟩
  case round =>
    obtain ⟨k, hk, rfl, hT, hqn, hb, hsz, k0, c1, c2, J1, J2⟩ := hrel
    clear T0 Q0 BW m0 m1 m2 I1 I2
    by_cases hlt2 : k < nd.1.length
    · obtain ⟨x, hx⟩ := lt_get hlt2
      have hxf := hlt.out x (Or.inl (List.mem_of_getElem? hx))
      obtain ⟨b', off', rfl, hbb', hcell⟩ := ints_atP J1.out hx
      have HPT := Lib.hid (partsF_take f nd.1 k x hx)
      have hpl : (partsF f (nd.1.take k)).length = k := by unfold partsF; rw [List.length_map, List.length_take]; omega
      have HPL := Lib.hid hpl
      have CW := Lib.hid fun (W : World) (hW : Below wr.heap.size wr W) => C.out W (hb.out.trans (hW.mono hb.out.size)) x hxf
      obtain ⟨P, hP⟩ : ∃ P, (partI (f.map downN) x).map upN = P := ⟨_, rfl⟩
      rw [hP] at CW HPT
      have HTW := Lib.hid fun (W : World) (hW : Below wr.heap.size wr W) => hT.out.below hW
      have hqb := Lib.hid hT.out.hq.lt
      have hrb := Lib.hid hT.out.hr.lt
      have hS0 : wr.drew.cell? ⟨w.heap.size, 0, none⟩ = some (.slice (some ⟨b, off, none⟩) f.length c0) ∧ wr.drew.cell? ⟨w.heap.size + 1 + 1 + 1, 0, none⟩ = some (.slice (some ⟨b', off', none⟩) nd.1.length d1) ∧ wr.drew.cell? ⟨b', off' + k, none⟩ = some (.int .i64 (x : Int)) := ⟨k0, c1, hcell⟩
      have hbd : Below wr.heap.size wr wr.drew := below_drewN (Below.refl _ _) 1
      have kk0 : (0 : Int) ≤ k := by omega
      have kk1 : (k : Int) < nd.1.length := by omega
      have hbz := hb.out.size
      clear hP hpl hx hT
      go_wp2
      go_region_held3 (fun w' : World => w'.cell? ⟨w.heap.size, 0, none⟩ = some (.slice (some ⟨b, off, none⟩) f.length c0) ∧ w'.cell? ⟨w.heap.size + 1 + 1 + 1, 0, none⟩ = some (.slice (some ⟨b', off', none⟩) nd.1.length d1) ∧ w'.cell? ⟨b', off' + k, none⟩ = some (.int .i64 (x : Int))) (first | exact hS0 | (go_split_ands; exact ⟨‹_›, ‹_›, ‹_›⟩) | (go_split_ands; exact opt3_only ⟨‹_›, ‹_›, ‹_›⟩ HAP.out (fun e => (hqn.out _ e).1 rfl) (fun e => (hqn.out _ e).2 rfl) (fun e => by have := hqb.out _ e; omega)) | (go_split_ands; exact opt3_below ⟨‹_›, ‹_›, ‹_›⟩ ((Below.refl _ _).alloc (Nat.le_refl _) _)) | (go_split_ands; exact opt3_below ⟨‹_›, ‹_›, ‹_›⟩ hbb)) (first
        | (go_at_call 69; (with_reducible refine (CW.out _ hbd).mono ?_); rintro e wb ⟨av, cv, rfl, hn, hbb⟩; have HBb : Below wr.heap.size wr wb := hbd.trans (hbb.mono (by simp)); have HBc : Below wr.heap.size wr (wb.alloc (.cells #[.slice av P.length cv] 26)) := HBb.trans (((Below.refl _ _).alloc (Nat.le_refl _) _).mono HBb.size); have hT2 := HTW.out _ HBc; obtain ⟨vals, r1, r2, r3⟩ := hT2.hq)
        | (refine step_app_fm rfl _ _ rfl r1 rfl (B := wb.heap.size) (u := .slice av P.length cv) (by go_simp) rfl rfl (by rw [HPL.out]; omega) (by have := HBc.size; omega) ?_; intro v7 w7 hown7 hgrow7 hat7; have HAP : Hid (Only _ w7 (fun b => u4.ownBlock = some b)) := Lib.hid (Only.of_grown hgrow7 (fun g e => e))))
      all_goals
        have OA : Only wr w7 (fun b => u4.ownBlock = some b) := (Only.of_below (F := fun b => u4.ownBlock = some b) HBc).trans HAP.out (fun _ _ h => h)
        have hzc : (wb.alloc (.cells #[.slice av P.length cv] 26)).heap.size = wb.heap.size + 1 := by simp
        have hbz2 := HBb.size
        have R1 : Hid (Two w7 w.heap.size v7 (.slice (some ⟨w.heap.size + 1 + 1, 0, none⟩) 0 0) (partsF f (nd.1.take (k + 1))) []) := Lib.hid (by
          rw [HPT.out]
          exact hT2.push r1 r2 r3 (lo := wr.heap.size) (hi := wb.heap.size) hbz (by omega) (hn.below ((Below.refl _ _).alloc (Nat.le_refl _) _) (Nat.le_refl _)) (fun b h1 h2 e => by
            rcases e with e | e
            · have := hqb.out b e; omega
            · have := hrb.out b e; omega) hown7 hgrow7 hat7)
        have R2 : Hid (∀ g, v7.ownBlock = some g → g ≠ w.heap.size ∧ g ≠ w.heap.size + 1 + 1 + 1) := Lib.hid (fun g e => by
          rcases hat7 with h | h
          · exact hqn.out g (h ▸ e)
          · rw [h] at e
            injection e with e
            omega)
        have BA : Below w.heap.size wr w7 := OA.below hbz (fun g e => (hqb.out g e).1)
        have R3 := Lib.hid (hb.out.trans BA)
        have R4 : w.heap.size + 4 ≤ w7.heap.size := by have := OA.size; omega
        have R5 := (OA.cell (o := 0) (block_of_cell k0) (fun e => (hqn.out _ e).1 rfl)).trans k0
        have R6 := (OA.cell (o := 0) (block_of_cell c1) (fun e => (hqn.out _ e).2 rfl)).trans c1
        have R7 := (OA.cell (o := 1) (block_of_cell c2) (fun e => (hqn.out _ e).2 rfl)).trans c2
        have R8 := Lib.hid (J1.out.below BA hh)
        have R9 := Lib.hid (J2.out.below BA hh)
        clear hown7 hgrow7 hat7 HAP hT2 r1 r2 r3 hn hbb HBb HBc OA BA hqb hrb hS0 hbd CW HTW k0 c1 c2 J1 J2 hb hqn
        go_wp2_with fail
        go_roundw
        case rel => exact ⟨k + 1, by omega, by go_num, R1, R2, R3, R4, R5, R6, R7, R8, R9⟩
        case measure => first | (simp [intOf]; done) | (simp [intOf]; omega)
    · have hke : nd.1.take k = nd.1 := List.take_of_length_le (by omega)
      rw [hke] at hT
      clear hke
      obtain ⟨W1, hW1⟩ : ∃ W, W = wr := ⟨_, rfl⟩
      subst hW1
      obtain ⟨aL, cL, rfl⟩ := hT.out.hq.shape
      have TS : Hid (Two W1 w.heap.size (.slice (some ⟨w.heap.size + 1 + 1, 0, none⟩) 0 0) (.slice aL (partsF f nd.1).length cL) [] (partsF f nd.1)) := Lib.hid hT.out.swap
      clear hT hqn
      go_wp2
      go_loopw [5, 8] (fun q i wr => ∃ k : Nat, k ≤ nd.2.length ∧ i = .int .i64 (k : Int) ∧ Hid (Two wr w.heap.size q (.slice aL (partsF f nd.1).length cL) (partsF f (nd.2.take k)) (partsF f nd.1)) ∧ Hid (∀ g, q.ownBlock = some g → g ≠ w.heap.size ∧ g ≠ w.heap.size + 1 + 1 + 1) ∧ Hid (Below w.heap.size w wr) ∧ w.heap.size + 4 ≤ wr.heap.size ∧ wr.cell? ⟨w.heap.size, 0, none⟩ = some (.slice (some ⟨b, off, none⟩) f.length c0) ∧ wr.cell? ⟨w.heap.size + 1 + 1 + 1, 0, none⟩ = some (.slice a1 nd.1.length d1) ∧ wr.cell? ⟨w.heap.size + 1 + 1 + 1, 1, none⟩ = some (.slice a2 nd.2.length d2) ∧ Hid (IntsZ wr lo hi (.slice a1 nd.1.length d1) (upL nd.1)) ∧ Hid (IntsZ wr lo hi (.slice a2 nd.2.length d2) (upL nd.2))) (fun _ i _ => nd.2.length - (intOf i).toNat)
      case atStart => exact ⟨0, Nat.zero_le _, rfl, by rw [List.take_zero]; exact TS, R0, hb, hsz, k0, c1, c2, J1, J2⟩
      case round =>
        clear TS hb hsz k0 c1 c2 J1 J2
        obtain ⟨k, hk, rfl, hT, hqn, hb, hsz, k0, c1, c2, J1, J2⟩ := hrel
        by_cases hlt3 : k < nd.2.length
        · obtain ⟨x, hx⟩ := lt_get hlt3
          have hxf := hlt.out x (Or.inr (List.mem_of_getElem? hx))
          obtain ⟨b', off', rfl, hbb', hcell⟩ := ints_atP J2.out hx
          have HPT := Lib.hid (partsF_take f nd.2 k x hx)
          have hpl : (partsF f (nd.2.take k)).length = k := by unfold partsF; rw [List.length_map, List.length_take]; omega
          have HPL := Lib.hid hpl
          have CW := Lib.hid fun (W : World) (hW : Below wr.heap.size wr W) => C.out W (hb.out.trans (hW.mono hb.out.size)) x hxf
          obtain ⟨P, hP⟩ : ∃ P, (partI (f.map downN) x).map upN = P := ⟨_, rfl⟩
          rw [hP] at CW HPT
          have HTW := Lib.hid fun (W : World) (hW : Below wr.heap.size wr W) => hT.out.below hW
          have hqb := Lib.hid hT.out.hq.lt
          have hrb := Lib.hid hT.out.hr.lt
          have hS0 : wr.drew.cell? ⟨w.heap.size, 0, none⟩ = some (.slice (some ⟨b, off, none⟩) f.length c0) ∧ wr.drew.cell? ⟨w.heap.size + 1 + 1 + 1, 1, none⟩ = some (.slice (some ⟨b', off', none⟩) nd.2.length d2) ∧ wr.drew.cell? ⟨b', off' + k, none⟩ = some (.int .i64 (x : Int)) := ⟨k0, c2, hcell⟩
          have hbd : Below wr.heap.size wr wr.drew := below_drewN (Below.refl _ _) 1
          have kk0 : (0 : Int) ≤ k := by omega
          have kk1 : (k : Int) < nd.2.length := by omega
          have hbz := hb.out.size
          clear hP hpl hx hT
          go_wp2
          go_region_held3 (fun w' : World => w'.cell? ⟨w.heap.size, 0, none⟩ = some (.slice (some ⟨b, off, none⟩) f.length c0) ∧ w'.cell? ⟨w.heap.size + 1 + 1 + 1, 1, none⟩ = some (.slice (some ⟨b', off', none⟩) nd.2.length d2) ∧ w'.cell? ⟨b', off' + k, none⟩ = some (.int .i64 (x : Int))) (first | exact hS0 | (go_split_ands; exact ⟨‹_›, ‹_›, ‹_›⟩) | (go_split_ands; exact opt3_only ⟨‹_›, ‹_›, ‹_›⟩ HAP.out (fun e => (hqn.out _ e).1 rfl) (fun e => (hqn.out _ e).2 rfl) (fun e => by have := hqb.out _ e; omega)) | (go_split_ands; exact opt3_below ⟨‹_›, ‹_›, ‹_›⟩ ((Below.refl _ _).alloc (Nat.le_refl _) _)) | (go_split_ands; exact opt3_below ⟨‹_›, ‹_›, ‹_›⟩ hbb)) (first
            | (go_at_call 69; (with_reducible refine (CW.out _ hbd).mono ?_); rintro e wb ⟨av, cv, rfl, hn, hbb⟩; have HBb : Below wr.heap.size wr wb := hbd.trans (hbb.mono (by simp)); have HBc : Below wr.heap.size wr (wb.alloc (.cells #[.slice av P.length cv] 26)) := HBb.trans (((Below.refl _ _).alloc (Nat.le_refl _) _).mono HBb.size); have hT2 := HTW.out _ HBc; obtain ⟨vals, r1, r2, r3⟩ := hT2.hq)
            | (refine step_app_fm rfl _ _ rfl r1 rfl (B := wb.heap.size) (u := .slice av P.length cv) (by go_simp) rfl rfl (by rw [HPL.out]; omega) (by have := HBc.size; omega) ?_; intro v7 w7 hown7 hgrow7 hat7; have HAP : Hid (Only _ w7 (fun b => u5.ownBlock = some b)) := Lib.hid (Only.of_grown hgrow7 (fun g e => e))))
          all_goals
            have OA : Only wr w7 (fun b => u5.ownBlock = some b) := (Only.of_below (F := fun b => u5.ownBlock = some b) HBc).trans HAP.out (fun _ _ h => h)
            have hzc : (wb.alloc (.cells #[.slice av P.length cv] 26)).heap.size = wb.heap.size + 1 := by simp
            have hbz2 := HBb.size
            have R1 : Hid (Two w7 w.heap.size v7 (.slice aL (partsF f nd.1).length cL) (partsF f (nd.2.take (k + 1))) (partsF f nd.1)) := Lib.hid (by
              rw [HPT.out]
              exact hT2.push r1 r2 r3 (lo := wr.heap.size) (hi := wb.heap.size) hbz (by omega) (hn.below ((Below.refl _ _).alloc (Nat.le_refl _) _) (Nat.le_refl _)) (fun b h1 h2 e => by
                rcases e with e | e
                · have := hqb.out b e; omega
                · have := hrb.out b e; omega) hown7 hgrow7 hat7)
            have R2 : Hid (∀ g, v7.ownBlock = some g → g ≠ w.heap.size ∧ g ≠ w.heap.size + 1 + 1 + 1) := Lib.hid (fun g e => by
              rcases hat7 with h | h
              · exact hqn.out g (h ▸ e)
              · rw [h] at e
                injection e with e
                omega)
            have BA : Below w.heap.size wr w7 := OA.below hbz (fun g e => (hqb.out g e).1)
            have R3 := Lib.hid (hb.out.trans BA)
            have R4 : w.heap.size + 4 ≤ w7.heap.size := by have := OA.size; omega
            have R5 := (OA.cell (o := 0) (block_of_cell k0) (fun e => (hqn.out _ e).1 rfl)).trans k0
            have R6 := (OA.cell (o := 0) (block_of_cell c1) (fun e => (hqn.out _ e).2 rfl)).trans c1
            have R7 := (OA.cell (o := 1) (block_of_cell c2) (fun e => (hqn.out _ e).2 rfl)).trans c2
            have R8 := Lib.hid (J1.out.below BA hh)
            have R9 := Lib.hid (J2.out.below BA hh)
            clear hown7 hgrow7 hat7 HAP hT2 r1 r2 r3 hn hbb HBb HBc OA BA hqb hrb hS0 hbd CW HTW k0 c1 c2 J1 J2 hb hqn
            go_wp2_with fail
            go_roundw
            case rel => exact ⟨k + 1, by omega, by go_num, R1, R2, R3, R4, R5, R6, R7, R8, R9⟩
            case measure => first | (simp [intOf]; done) | (simp [intOf]; omega)
        · have hke : nd.2.take k = nd.2 := List.take_of_length_le (by omega)
          rw [hke] at hT
          obtain ⟨aR, cR, rfl⟩ := hT.out.hq.shape
          have F1 := Lib.hid hT.out.hr.formsZ
          have F2 := Lib.hid hT.out.hq.formsZ
          clear hke hT hqn
          go_wp2
          exact bodyPost_ret (v := .tuple #[.slice aL (partsF f nd.1).length cL, .slice aR (partsF f nd.2).length cR]) (by simp [results, Try.results62, go_sem]) rfl ⟨_, _, rfl, F1.out, F2.out, hb.out⟩

/-- as the program's -/
theorem optionsS_calls (va : Value) (f : List Nz) (G1 G2 : List (List Nz)) (ok : Bool) (hok : Hid (goodB f = ok)) (h1 : Hid (optV f true = G1)) (h2 : Hid (optV f false = G2)) (w : World) (lo hi : Nat) (hh : hi ≤ w.heap.size) (hva : NodesZ w lo hi va f) :
    Calls Try.prog 25 #[.agg #[va]] w fun e w' => ∃ a1 c1 a2 c2, e = .returned (.tuple #[.slice a1 G1.length c1, .slice a2 G2.length c2, .bool ok]) ∧
      FormsZ w' w.heap.size w'.heap.size (.slice a1 G1.length c1) G1 ∧ FormsZ w' w.heap.size w'.heap.size (.slice a2 G2.length c2) G2 ∧ Below w.heap.size w w' := by
  have HB0 := Lib.hid fun o => show Below w.heap.size w (w.alloc o) from ((Below.refl _ _).alloc (Nat.le_refl _) _)
  have CG := Lib.hid fun (W : World) (hW : Below w.heap.size w W) => goodS_resP va f ok hok W lo hi (Nat.le_trans hh hW.size) (hva.below hW hh)
  have HVA := Lib.hid fun (W : World) (hW : Below w.heap.size w W) => hva.below hW hh
  obtain ⟨ao, c0, rfl⟩ : ∃ ao c, va = .slice ao f.length c := by obtain ⟨ao, c, e, _⟩ := hva; exact ⟨ao, c, e⟩
  clear hva
  go_enter Try.func25, Try.ntmps25
  go_wp2_with fail
  refine (CG.out _ (HB0.out _)).mono ?_
  rintro e w4 ⟨rfl, hb4⟩
  have k0 : w4.cell? ⟨w.heap.size, 0, none⟩ = some (.slice ao f.length c0) := (bcell hb4 _ _ (by simp)).trans (by go_simp)
  have HB4 := Lib.hid (Below.trans (HB0.out _) (hb4.mono (by simp)))
  clear hb4 CG
  cases ok with
  | false =>
    obtain rfl : G1 = [] := by rw [← h1.out]; unfold optV; rw [hok.out]; rfl
    obtain rfl : G2 = [] := by rw [← h2.out]; unfold optV; rw [hok.out]; rfl
    have NZ : ∀ W lo hi (g c : Nat), FormsZ W lo hi (.slice (some ⟨g, 0, none⟩) 0 0) [] := fun W lo hi g c => ⟨_, 0, rfl, by simp, fun j f hj => by simp at hj⟩
    have B6 : Hid (Below w.heap.size w ((w4.alloc (.cells #[] 26)).alloc (.cells #[] 26))) := Lib.hid ((HB4.out.alloc HB4.out.size _).alloc (by have := HB4.out.size; simp; omega) _)
    go_wp2_with fail
    exact bodyPost_ret (v := .tuple #[.slice (some ⟨w4.heap.size, 0, none⟩) 0 0, .slice (some ⟨w4.heap.size + 1, 0, none⟩) 0 0, .bool false]) (by simp [results, Try.results25, go_sem]) rfl ⟨_, _, _, _, rfl, NZ _ _ _ _ 0, NZ _ _ _ _ 0, B6.out⟩
  | true =>
    have hg := hok.out
    have E1 : Hid (partsF f (lastN f).1 = G1) := Lib.hid (by rw [← h1.out]; unfold optV; rw [hg]; rfl)
    have E2 : Hid (partsF f (lastN f).2 = G2) := Lib.hid (by rw [← h2.out]; unfold optV; rw [hg]; rfl)
    have C := Lib.hid fun (W : World) (hW : Below w.heap.size w W) => l3Opts_calls (.slice ao f.length c0) f W lo hi (Nat.le_trans hh hW.size) (HVA.out W hW) hg
    rw [E1.out, E2.out] at C
    clear hg hok h1 h2 E1 E2
    go_wp2_with fail
    refine (C.out _ HB4.out).mono ?_
    rintro e w5 ⟨v1, v2, rfl, f1, f2, hb5⟩
    obtain ⟨a1, c1, rfl, _⟩ := (show ∃ a c, v1 = .slice a G1.length c ∧ True from by obtain ⟨a, c, e, _⟩ := f1; exact ⟨a, c, e, trivial⟩)
    obtain ⟨a2, c2, rfl, _⟩ := (show ∃ a c, v2 = .slice a G2.length c ∧ True from by obtain ⟨a, c, e, _⟩ := f2; exact ⟨a, c, e, trivial⟩)
    have F1 := Lib.hid (f1.wide HB4.out.size (Nat.le_refl _))
    have F2 := Lib.hid (f2.wide HB4.out.size (Nat.le_refl _))
    have B5 := Lib.hid (HB4.out.trans (hb5.mono HB4.out.size))
    clear f1 f2 hb5 C
    go_wp2_with fail
    exact bodyPost_ret (v := .tuple #[.slice a1 G1.length c1, .slice a2 G2.length c2, .bool true]) (by simp [results, Try.results25, go_sem]) rfl ⟨_, _, _, _, rfl, F1.out, F2.out, B5.out⟩

end Go.Proofs.Ytlhpkoaegldjdaa
