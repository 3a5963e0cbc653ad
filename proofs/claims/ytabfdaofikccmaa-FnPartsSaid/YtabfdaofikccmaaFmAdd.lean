/- (*spec.l3Book).add and .root: a form's nodes put into a book. -/
import Derived.Test.YtabfdaofikccmaaFmBkPut
namespace Go.Proofs.Ytabfdaofikccmaa
open Go.RowKit
theorem addF_len (ns f : List Nd) : (addF ns f).2.length = f.length ∧ (addF ns f).1.length ≤ ns.length + f.length := by
  induction f using snocInd with
  | nil => exact ⟨rfl, by simp [addF]⟩
  | snoc f nd ih =>
    rw [addF_snoc]
    refine ⟨by simp [ih.1], ?_⟩
    have : ∀ (C : List Nd) (x : Nd), (bookPut C x).length ≤ C.length + 1 := fun C x => by unfold bookPut; split <;> simp
    have := this (addF ns f).1 (movd (fun x => (addF ns f).2.getD x 0) nd)
    simp only [List.length_append, List.length_singleton]
    omega
theorem addF_take (ns f : List Nd) (k : Nat) (nd : Nd) (h : f[k]? = some nd) : addF ns (f.take (k + 1)) =
    (bookPut (addF ns (f.take k)).1 (sortd (nd.1.map (fun x => (addF ns (f.take k)).2.getD x 0)), sortd (nd.2.map (fun x => (addF ns (f.take k)).2.getD x 0))),
      (addF ns (f.take k)).2 ++ [seat (addF ns (f.take k)).1 (sortd (nd.1.map (fun x => (addF ns (f.take k)).2.getD x 0)), sortd (nd.2.map (fun x => (addF ns (f.take k)).2.getD x 0)))]) := by
  rw [List.take_succ_eq_append_getElem (get_lt h)]
  rw [List.getElem?_eq_getElem (get_lt h)] at h
  injection h with h
  rw [h, addF_snoc]
  rfl
theorem under_take {f : List Nd} (h : Under f) (k : Nat) : Under (f.take k) := fun j nd hj => h j nd (by
  have : j < k := by have := get_lt hj; simp at this; omega
  rwa [List.getElem?_take_of_lt this] at hj)
theorem own_intsA {w : World} {base g n c : Nat} {A : List Nat} (h : w.ownsRow base 3 1 (.slice (some ⟨g, 0, none⟩) n c) n (A.map iv)) (hn : n ≤ 1000000) : A.length = n ∧ IntsZ w g (g + 1) (.slice (some ⟨g, 0, none⟩) n c) (upL A) := by
  have hl : A.length = n := by have := h.1; simpa using this
  have hu : (upL A).length = n := by unfold upL; simp [hl]
  refine ⟨hl, ?_⟩
  have e : A.map iv = (upL A).map (Value.int .i64) := by unfold upL iv; simp [List.map_map, Function.comp_def]
  rw [e, ← hu] at h
  rw [← hu]
  exact ints_own h (by omega) (World.ownsRow.lt h _ rfl).2
/-- an append of whole numbers, at a step of a region that draws; and where it lies -/
theorem step_app_at {ops : Array Oper} {o : Oper} {a : Act} {w : World} {K : Act → World → Prop} {Q : Exit → Act → World → Prop} {E : Prop} (hgd : o.guard = none) (s x : Operand)
    (ho : o.op = .call { callee := .builtin .append, args := #[s, x], argTypes := #[34, 34] })
    {base : Nat} {v : Value} {n : Nat} {xs : List Value} (hown : w.ownsRow base 3 1 v n xs) (hs : a.eval s = v) {B u : Nat} (hc : w.cell? ⟨B, 0, none⟩ = some (.int .i64 (u : Int))) (hx : a.eval x = .slice (some ⟨B, 0, none⟩) 1 1)
    (hsmall : n + 1 ≤ 3000000) (hbase : base ≤ w.heap.size)
    (h : ∀ v' w', w'.ownsRow base 3 1 v' (n + 1) (xs ++ [iv u]) → w.grownBy w' v.ownBlock → (v'.ownBlock = v.ownBlock ∨ v'.ownBlock = some w.heap.size) → K (a.put o.dst v') w') :
    if Region.wanted o (yielded ops a.tmps) = true then Oper.wp Try.prog o a w K Q else E := by
  obtain ⟨i0, hi0, hz0, hz1, hz2⟩ := info_parts infoIntA
  have hw : Region.wanted o (yielded ops a.tmps) = true := by simp [Region.wanted, hgd]
  rw [if_pos hw]
  obtain ⟨hl, h1, hsrc⟩ := src_one hc
  rcases hsrc with ⟨h0, _⟩ | ⟨ad, c, e0, hc2⟩
  · cases h0
  · injection e0 with e1 _ e3
    injection e1 with e1
    subst e1 e3
    obtain ⟨v', w', hr, h2, h3, _, h5⟩ := run_append_own_at (P := Try.prog) w base 34 o.type 3 i0 (.int .i64 0) 1 8 Try.underlying34 hi0 hz0 hz1 hz2 rfl (by decide) v n xs hown ⟨B, 0, none⟩ 1 1 [iv u] rfl hc2 h1 (by unfold maxLen; omega) (by omega) hbase
    unfold Oper.wp execOp
    simp only [ho, resolve, invoke, builtin, Sem.run_bind, Sem.run_pure, Result.andThen_ok, List.map_toArray, List.map_cons, List.map_nil, hs, hx, hr]
    exact h v' w' h2 h3 h5
/-- the form's box and the node at hand -/
def AddS (h0 b j : Nat) (vf v1 v2 : Value) (w' : World) : Prop := w'.cell? ⟨h0, 0, none⟩ = some vf ∧ w'.cell? ⟨b, j, none⟩ = some v1 ∧ w'.cell? ⟨b, j + 1, none⟩ = some v2
theorem addS_only {h0 b j : Nat} {vf v1 v2 : Value} {W w1 : World} {F : Nat → Prop} (ho : Only W w1 F) (n1 : ¬ F h0) (n2 : ¬ F b) (h : AddS h0 b j vf v1 v2 W) : AddS h0 b j vf v1 v2 w1 :=
  ⟨(ho.cell (block_of_cell h.1) n1).trans h.1, (ho.cell (block_of_cell h.2.1) n2).trans h.2.1, (ho.cell (block_of_cell h.2.2) n2).trans h.2.2⟩
theorem addS_below {h0 b j : Nat} {vf v1 v2 : Value} {W w1 : World} (hb : Below W.heap.size W w1) (h : AddS h0 b j vf v1 v2 W) : AddS h0 b j vf v1 v2 w1 :=
  addS_only (F := fun _ => False) (Only.of_below hb) id id h
set_option maxRecDepth 100000 in
set_option maxHeartbeats 8000000 in
theorem add_calls (base B : Nat) (ns : List Nd) (vn0 vb0 : Value) (vs0 : List (Value × Value)) (vf : Value) (f : List Nd) (w : World) (lo hi : Nat) (hh : hi ≤ base)
    (h : Bk base w B ns (bornsOf ns) vn0 vb0 vs0 (fun _ => False)) (hbk : Book ns) (hv : NodesZ w lo hi vf (f.map upN)) (hf : Under f) (hn : ns.length + f.length ≤ 90000) (hl : ∀ nd ∈ f, nd.1.length ≤ 90000 ∧ nd.2.length ≤ 90000) :
    Calls Try.prog 99 #[.pointer (some ⟨B, 0, none⟩), .agg #[vf]] w fun e w' => ∃ g c vn vb vs, e = .returned (.slice (some ⟨g, 0, none⟩) f.length c) ∧ IntsZ w' w.heap.size w'.heap.size (.slice (some ⟨g, 0, none⟩) f.length c) (upL (addF ns f).2) ∧
      Bk base w' B (addF ns f).1 (bornsOf (addF ns f).1) vn vb vs (fun _ => False) ∧ Only w w' (Foot B vn0 vb0) ∧ ∀ x, x < w.heap.size → Foot B vn vb x → Foot B vn0 vb0 x := by
  have HK0 := Lib.hid h
  have HV := Lib.hid hv
  have HF := Lib.hid hf
  have HL := Lib.hid hl
  have HAD := Lib.hid fun k => addF_added ns hbk (f.take k) (under_take hf k)
  have HFL := Lib.hid h.lt
  have hbase : base ≤ w.heap.size := by have := h.lt B (Or.inl rfl); omega
  obtain ⟨aof, cof, rfl, _, _⟩ := hv
  rw [List.length_map] at HV ⊢
  clear hl hf hbk h
  have HB0 : Hid (Below w.heap.size w ((w.alloc (.cells #[.slice aof f.length cof] 28)).alloc (.cells #[] 3))) := Lib.hid (((Below.refl _ _).alloc (Nat.le_refl _) _).alloc (by simp) _)
  have HO0 : Hid (((w.alloc (.cells #[.slice aof f.length cof] 28)).alloc (.cells #[] 3)).ownsRow base 3 1 (.slice (some ⟨w.heap.size + 1, 0, none⟩) 0 0) 0 []) := Lib.hid (by
    have h := World.ownsRow_lit (base := base) (e := 3) (size := 1) (w.alloc (.cells #[.slice aof f.length cof] 28)) #[] 0 (by simp; omega) (by unfold maxLen; omega) rfl
    rw [show (w.alloc (.cells #[.slice aof f.length cof] 28)).heap.size = w.heap.size + 1 from by simp] at h
    exact h)
  go_enter Try.func99, Try.ntmps99
  go_wp2
  go_loopw [5, 6] (fun q i wr => ∃ (k ga ca : Nat) (vn vb : Value) (vs : List (Value × Value)), k ≤ f.length ∧ i = .int .i64 k ∧ q = .slice (some ⟨ga, 0, none⟩) k ca ∧ Hid (Bk base wr B (addF ns (f.take k)).1 (bornsOf (addF ns (f.take k)).1) vn vb vs (fun g => g = ga)) ∧
      Hid (wr.ownsRow base 3 1 (.slice (some ⟨ga, 0, none⟩) k ca) k ((addF ns (f.take k)).2.map iv)) ∧ w.heap.size < ga ∧ Hid (¬ Foot B vn vb ga) ∧ Hid (∀ g, g < w.heap.size + 1 → Foot B vn vb g → Foot B vn0 vb0 g) ∧ Hid (Only w wr (Foot B vn0 vb0)) ∧ wr.cell? ⟨w.heap.size, 0, none⟩ = some (.slice aof f.length cof)) (fun _ i _ => f.length - (intOf i).toNat)
  case atStart =>
    refine ⟨0, w.heap.size + 1, 0, vn0, vb0, vs0, Nat.zero_le _, rfl, rfl, Lib.hid ?_, Lib.hid ?_, by omega, Lib.hid (fun hF => by have := (HFL.out _ hF).2; omega), Lib.hid (fun _ _ hF => hF), Lib.hid (Only.of_below HB0.out), by go_simp⟩
    · have h1 : Bk base w B ns (bornsOf ns) vn0 vb0 vs0 (fun g => g = w.heap.size + 1) := HK0.out.reX (fun g hg e => by omega)
      simpa [addF] using h1.below HB0.out
    · simpa [addF] using HO0.out
  case round =>
    obtain ⟨k, ga, ca, vn, vb, vs, hk, rfl, rfl, hK, hown, hga, hnf, hft, ho, hbox⟩ := hrel
    by_cases hlt : k < f.length
    · obtain ⟨nd, hx⟩ := lt_get hlt
      have hadd := addF_take ns f k nd hx
      have had := HAD.out k
      have hlen := addF_len ns (f.take k)
      obtain ⟨ao1, c1, e1, _, hnn⟩ := (HV.out.below (ho.out.below hbase (fun g hg => (HFL.out g hg).1)) hh)
      obtain ⟨b, off, v1, v2, hao, _, hbhi, p1, p2, i1, i2⟩ := hnn k (upN nd) (by rw [List.getElem?_map, hx]; rfl)
      obtain ⟨q1, q2, q3⟩ := slice_inj e1
      rw [hao] at q1
      subst q1
      clear q2 q3 e1 hnn
      obtain ⟨hAl, hAI⟩ := own_intsA hown.out (by omega)
      have hnd := HL.out nd (List.mem_of_getElem? hx)
      have hux := HF.out k nd hx
      have hgaw : ga < wr.heap.size := (World.ownsRow.lt hown.out _ rfl).2
      have hos := ho.out.size
      generalize hC : (addF ns (f.take k)).1 = C at hK had hlen hadd
      generalize hA : (addF ns (f.take k)).2 = A at hown had hlen hadd hAl hAI
      have hAC : ∀ x, x < k → A.getD x 0 < C.length := fun x hxk => by
        obtain ⟨n0, hn0⟩ := lt_get (l := f.take k) (i := x) (by simp; omega)
        exact get_lt (had.node x n0 hn0)
      have hCu := had.book.struct.under
      have hCl : C.length ≤ 90000 := by have := hlen.2; simp at this; omega
      have hwr : base ≤ wr.heap.size := by omega
      have C1 := Lib.hid fun (W : World) (hW : Below wr.heap.size wr W) => l3At_calls (.slice (some ⟨ga, 0, none⟩) k ca) v1 A nd.1 W ga (ga + 1) lo hi (by have := hW.size; omega) (by have := hW.size; omega) (hAI.below hW (by omega)) (i1.below hW (by omega)) (by omega) (fun x hx => by rw [hAl]; exact hux x (Or.inl hx))
      have C2 := Lib.hid fun (W : World) (hW : Below wr.heap.size wr W) => l3At_calls (.slice (some ⟨ga, 0, none⟩) k ca) v2 A nd.2 W ga (ga + 1) lo hi (by have := hW.size; omega) (by have := hW.size; omega) (hAI.below hW (by omega)) (i2.below hW (by omega)) (by omega) (fun x hx => by rw [hAl]; exact hux x (Or.inr hx))
      have C3 := Lib.hid fun (W : World) (hW : Below wr.heap.size wr W) (vl vr : Value) (l1 h1 l2 h2 : Nat) (hh1 : h1 ≤ W.heap.size) (hh2 : h2 ≤ W.heap.size) (hvl : IntsZ W l1 h1 vl (upL (nd.1.map (fun x => A.getD x 0)))) (hvr : IntsZ W l2 h2 vr (upL (nd.2.map (fun x => A.getD x 0)))) =>
        put_calls base B C vn vb vs (fun g => g = ga) vl vr (nd.1.map (fun x => A.getD x 0)) (nd.2.map (fun x => A.getD x 0)) W l1 h1 l2 h2 hh1 hh2 (hK.out.below hW) (fun g e => by have := hW.size; omega) hCu hvl hvr
          (fun y hy => by obtain ⟨x, hx, rfl⟩ := List.mem_map.1 hy; exact hAC x (hux x (Or.inl hx))) (fun y hy => by obtain ⟨x, hx, rfl⟩ := List.mem_map.1 hy; exact hAC x (hux x (Or.inr hx))) (by omega) (by simp; omega) (by simp; omega)
      generalize seat C (sortd (nd.1.map (fun x => A.getD x 0)), sortd (nd.2.map (fun x => A.getD x 0))) = su at C3 hadd
      generalize bookPut C (sortd (nd.1.map (fun x => A.getD x 0)), sortd (nd.2.map (fun x => A.getD x 0))) = Cp at C3 hadd
      have HOW := Lib.hid fun (W : World) (hW : Below wr.heap.size wr W) => own_only hown.out (Only.of_below (F := fun _ => False) hW) (fun _ _ => id)
      have HFK := Lib.hid hK.out.lt
      have HADD := Lib.hid hadd
      have hS0 : AddS w.heap.size b (off + k * 2) (.slice (some ⟨b, off, none⟩) f.length cof) v1 v2 wr.drew := ⟨hbox, p1, p2⟩
      have HBX := Lib.hid hbox
      have nb0 : Hid (¬ Foot B vn vb w.heap.size) := Lib.hid (fun hF => by have := hft.out _ (by omega) hF; have := (HFL.out _ this).2; omega)
      have nb1 : Hid (¬ Foot B vn vb b) := Lib.hid (fun hF => by have := (HFK.out _ hF).1; omega)
      have hbd : Hid (Below wr.heap.size wr wr.drew) := Lib.hid (below_drewN (Below.refl _ _) 1)
      clear hAI i1 i2 hadd had hlen p1 p2 hAC
      have b0 : (0 : Int) ≤ k := by omega
      have b1 : (k : Int) < f.length := by omega
      go_wp2
      go_region_held3 (fun w' : World => w'.cell? ⟨w.heap.size, 0, none⟩ = some (.slice (some ⟨b, off, none⟩) f.length cof) ∧ w'.cell? ⟨b, off + k * 2, none⟩ = some v1 ∧ w'.cell? ⟨b, off + k * 2 + 1, none⟩ = some v2) (first | exact hS0 | (go_split_ands; exact ⟨‹_›, ‹_›, ‹_›⟩) | (go_split_ands; exact addS_only HAPP.out (by omega) (by omega) ⟨‹_›, ‹_›, ‹_›⟩) | (go_split_ands; exact addS_below ((Below.refl _ _).alloc (Nat.le_refl _) _) ⟨‹_›, ‹_›, ‹_›⟩) | (go_split_ands; exact addS_only ho6 nb0.out nb1.out ⟨‹_›, ‹_›, ‹_›⟩) | (go_split_ands; exact addS_below hb5 ⟨‹_›, ‹_›, ‹_›⟩) | (go_split_ands; exact addS_below hb4 ⟨‹_›, ‹_›, ‹_›⟩)) (first | (go_at_call 88; (with_reducible refine (C3.out w5 HB5 _ _ _ _ _ _ (Nat.le_refl _) (Nat.le_refl _) (hi1.below hb5 (Nat.le_refl _) |>.wide (Nat.le_refl _) hb5.size) hi2).mono ?_); rintro e w6 ⟨rfl, vn', vb', vs', hK6, ho6, hf6⟩) | (go_at_call 97; (with_reducible refine (C1.out _ hbd.out).mono ?_); rintro e w4 ⟨g1, c1, rfl, hi1, hg1, hg1', hb4⟩; have HB4 : Below wr.heap.size wr w4 := Below.trans hbd.out hb4) | (go_at_call 97; (with_reducible refine (C2.out w4 HB4).mono ?_); rintro e w5 ⟨g2, c2, rfl, hi2, hg2, hg2', hb5⟩; have HB5 : Below wr.heap.size wr w5 := HB4.trans (hb5.mono HB4.size); have HO6 := HOW.out w5 HB5) | (refine step_app_at rfl _ _ rfl (World.ownsRow.alloc (own_only HO6 ho6 (fun g e => by injection e with e; subst e; exact hnf.out)) _) rfl (B := w6.heap.size) (u := su) (by go_simp) rfl (by omega) (by simp; have := ho6.size; have := HB5.size; omega) ?_; intro v7 w7 hown7 hgrow7 hat7; have HAPP : Hid (Only _ w7 (fun g => g = ga)) := Lib.hid (Only.of_grown hgrow7 (fun g e => by injection e with e; exact e.symm))))
      all_goals
        obtain ⟨g7, c7, rfl, _, hg7h⟩ := hown7.form (by omega)
        have HK7a := hK6.below ((Below.refl w6.heap.size w6).alloc (Nat.le_refl _) (.cells #[.int .i64 (su : Int)] 3))
        have hz6 : (w6.alloc (.cells #[.int .i64 (su : Int)] 3)).heap.size = w6.heap.size + 1 := by simp
        have hz5 := HB5.size
        have hs6 := ho6.size
        have hgaF : ¬ Foot B vn' vb' ga := fun hF => hnf.out (hf6 ga (by omega) hF)
        have hat : g7 = ga ∨ g7 = w6.heap.size + 1 := by
          rcases hat7 with e | e
          · left; injection e
          · right; rw [hz6] at e; injection e
        have HK7b := (HK7a.reX (Y := fun g => g = ga ∨ g = w6.heap.size + 1) (fun g hg e => by rw [hz6] at hg; omega)).only (HAPP.out.mono (fun i _ e => Or.inl e)) (fun g hF e => by
          rcases e with e | e
          · exact hgaF (e ▸ hF)
          · have := (HK7a.lt g hF).2; rw [hz6] at this; omega)
        have HK7 : Hid (Bk base w7 B Cp (bornsOf Cp) vn' vb' vs' (fun g => g = g7)) := Lib.hid (HK7b.reX (fun g _ e => by subst e; exact hat))
        have HNF7 : Hid (¬ Foot B vn' vb' g7) := Lib.hid (fun hF => by
          rcases hat with e | e
          · exact hgaF (e ▸ hF)
          · have := (HK7a.lt g7 hF).2; rw [hz6] at this; omega)
        have OT : Only wr w7 (fun g => Foot B vn vb g ∨ g = ga) :=
          (((Only.of_below (F := fun g => Foot B vn vb g ∨ g = ga) HB5).trans ho6 (fun i _ h => Or.inl h)).trans (Only.of_below (F := fun g => Foot B vn vb g ∨ g = ga) ((Below.refl w6.heap.size w6).alloc (Nat.le_refl _) (.cells #[.int .i64 (su : Int)] 3))) (fun i _ h => h)).trans HAPP.out (fun i _ h => Or.inr h)
        have HO7 : Hid (Only w w7 (Foot B vn0 vb0)) := Lib.hid (ho.out.trans OT (fun i hi h => by
          rcases h with h | h
          · exact hft.out i (by omega) h
          · omega))
        have HFT7 : Hid (∀ g, g < w.heap.size + 1 → Foot B vn' vb' g → Foot B vn0 vb0 g) := Lib.hid (fun g hg hF => hft.out g hg (hf6 g (by omega) hF))
        have HBX7 : Hid (w7.cell? ⟨w.heap.size, 0, none⟩ = some (.slice (some ⟨b, off, none⟩) f.length cof)) := Lib.hid ((OT.cell (block_of_cell HBX.out) (fun h => by
          rcases h with h | h
          · exact nb0.out h
          · omega)).trans HBX.out)
        have HOWN : Hid (w7.ownsRow base 3 1 (.slice (some ⟨g7, 0, none⟩) (k + 1) c7) (k + 1) ((A ++ [su]).map iv)) := Lib.hid (by rw [List.map_append]; exact hown7)
        have hg7 : w.heap.size < g7 := by omega
        clear hown7 hgrow7 hat7 HAPP OT HK7a HK7b hz6 hK6 ho6 hf6 hat hgaF
        go_wp2
        go_roundw
        case rel => exact ⟨k + 1, g7, c7, vn', vb', vs', by omega, by go_num, rfl, by rw [HADD.out]; exact HK7, by rw [HADD.out]; exact HOWN, hg7, HNF7, HFT7, HO7, HBX7.out⟩
        case measure => simp [intOf]; omega
    · have hke : f.take k = f := List.take_of_length_le (by omega)
      have hkl : k = f.length := by omega
      subst hkl
      rw [hke] at hK hown
      obtain ⟨_, hAI⟩ := own_intsA hown.out (by omega)
      have hgaw : ga < wr.heap.size := (World.ownsRow.lt hown.out _ rfl).2
      have HI := Lib.hid (hAI.wide (lo' := w.heap.size) (hi' := wr.heap.size) (by omega) (by omega))
      have HKE := Lib.hid (hK.out.reX (Y := fun _ => False) (fun _ _ h => h.elim))
      have HFE : Hid (∀ x, x < w.heap.size → Foot B vn vb x → Foot B vn0 vb0 x) := Lib.hid (fun x hx => hft.out x (by omega))
      clear hAI hK hown hke
      go_wp2
      go_ret
      exact ⟨ga, ca, vn, vb, vs, rfl, HI.out, HKE.out, ho.out, HFE.out⟩

end Go.Proofs.Ytabfdaofikccmaa
