/- Nodes put one by one into a book of the call's own, and the places where they are. -/
import Derived.Test.YtabfdaofikccmaaFmRootN
import Derived.Test.YtabfdaofikccmaaFmPartL
import Derived.Test.YtabfdaofikccmaaFmFits
import Derived.Test.YtabfdaofikccmaaFmLaw
import Derived.Test.YtabfdaofikccmaaInOf
import Derived.Test.YtabfdaofikccmaaSmM
import Derived.Test.YtabfdaofikccmaaInAll
import Derived.Test.YtabfdaofikccmaaSpAll
import Derived.Test.YtabfdaofikccmaaDrAll
import Derived.Deep.RegionHeld3
namespace Go.Proofs.Ytabfdaofikccmaa
section
open Go.RowKit
set_option linter.unusedVariables false
set_option linter.unusedSimpArgs false
structure BkAt (base : Nat) (wr : World) (P : List Nd) (ga ca : Nat) (vn vb : Value) (vs : List (Value × Value)) : Prop where
  bk : Bk base wr base (addF [] P).1 (bornsOf (addF [] P).1) vn vb vs (fun g => g = ga)
  own : wr.ownsRow base 3 1 (.slice (some ⟨ga, 0, none⟩) P.length ca) P.length ((addF [] P).2.map iv)
  lt : base < ga
  nf : ¬ Foot base vn vb ga
theorem BkAt.size {base : Nat} {wr : World} {P : List Nd} {ga ca : Nat} {vn vb : Value} {vs : List (Value × Value)} (h : BkAt base wr P ga ca vn vb vs) : ga < wr.heap.size ∧ base < wr.heap.size := by
  have := (World.ownsRow.lt h.own ga rfl).2
  exact ⟨this, by have := h.lt; omega⟩
theorem BkAt.below {base : Nat} {wr w' : World} {P : List Nd} {ga ca : Nat} {vn vb : Value} {vs : List (Value × Value)} (h : BkAt base wr P ga ca vn vb vs) (hb : Below wr.heap.size wr w') : BkAt base w' P ga ca vn vb vs :=
  ⟨h.bk.below hb, own_only h.own (Only.of_below (F := fun _ => False) hb) (fun _ _ => id), h.lt, h.nf⟩
/-- the first one: nothing is there yet -/
theorem BkAt.start (w : World) : BkAt w.heap.size ((w.alloc (.cells #[.slice none 0 0, .slice none 0 0] 101)).alloc (.cells #[] 3)) [] (w.heap.size + 1) 0 (.slice none 0 0) (.slice none 0 0) [] := by
  have hz : (w.alloc (.cells #[.slice none 0 0, .slice none 0 0] 101)).heap.size = w.heap.size + 1 := by simp
  have hb : Below (w.alloc (.cells #[.slice none 0 0, .slice none 0 0] 101)).heap.size (w.alloc (.cells #[.slice none 0 0, .slice none 0 0] 101)) ((w.alloc (.cells #[.slice none 0 0, .slice none 0 0] 101)).alloc (.cells #[] 3)) := (Below.refl _ _).alloc (Nat.le_refl _) _
  refine ⟨?_, ?_, by omega, ?_⟩
  · exact ((bk_nil w).reX (Y := fun g => g = w.heap.size + 1) (fun g hg e => by rw [hz] at hg; omega)).below hb
  · have h := World.ownsRow_lit (base := w.heap.size) (e := 3) (size := 1) (w.alloc (.cells #[.slice none 0 0, .slice none 0 0] 101)) #[] 0 (by rw [hz]; omega) (by unfold maxLen; omega) rfl
    rw [hz] at h
    exact h
  · rintro (h | h | h)
    · omega
    · simp [Value.ownBlock] at h
    · simp [Value.ownBlock] at h
theorem at_len (P : List Nd) : (addF [] P).2.length = P.length := (addF_len [] P).1
theorem at_add (P : List Nd) (L R : List Nat) : addF [] (P ++ [(L, R)]) =
    (bookPut (addF [] P).1 (sortd (L.map (fun x => (addF [] P).2.getD x 0)), sortd (R.map (fun x => (addF [] P).2.getD x 0))),
      (addF [] P).2 ++ [seat (addF [] P).1 (sortd (L.map (fun x => (addF [] P).2.getD x 0)), sortd (R.map (fun x => (addF [] P).2.getD x 0)))]) := by
  rw [addF_snoc]
  rfl
/-- where the next one stands -/
def seatAt (P : List Nd) (L R : List Nat) : Nat := seat (addF [] P).1 (sortd (L.map (fun x => (addF [] P).2.getD x 0)), sortd (R.map (fun x => (addF [] P).2.getD x 0)))
theorem BkAt.ints {base : Nat} {wr : World} {P : List Nd} {ga ca : Nat} {vn vb : Value} {vs : List (Value × Value)} (h : BkAt base wr P ga ca vn vb vs) (hP : P.length ≤ 90000) : IntsZ wr ga (ga + 1) (.slice (some ⟨ga, 0, none⟩) P.length ca) (upL (addF [] P).2) := (own_intsA h.own (by omega)).2
/-- the places that some options are at -/
theorem BkAt.l3At_calls {base : Nat} {wr : World} {P : List Nd} {ga ca : Nat} {vn vb : Value} {vs : List (Value × Value)} (h : BkAt base wr P ga ca vn vb vs) (hP : P.length ≤ 90000) (W : World) (hW : Below wr.heap.size wr W) (v : Value) (L : List Nat) (lo hi : Nat) (hh : hi ≤ W.heap.size) (hv : IntsZ W lo hi v (upL L)) (hl : L.length ≤ 90000) (hx : ∀ x ∈ L, x < P.length) :
    Calls Try.prog 97 #[.slice (some ⟨ga, 0, none⟩) P.length ca, v] W fun e w' => ∃ b c, e = .returned (.slice (some ⟨b, 0, none⟩) L.length c) ∧ IntsZ w' W.heap.size w'.heap.size (.slice (some ⟨b, 0, none⟩) L.length c) (upL (L.map (fun x => (addF [] P).2.getD x 0))) ∧ Below W.heap.size W w' := by
  have hs := h.size
  refine (Go.Proofs.Ytabfdaofikccmaa.l3At_calls (.slice (some ⟨ga, 0, none⟩) P.length ca) v (addF [] P).2 L W ga (ga + 1) lo hi (by have := hW.size; omega) hh ((h.ints hP).below hW (by omega)) hv (by omega) (fun x hx' => by rw [at_len]; exact hx x hx')).mono ?_
  rintro e w' ⟨b, c, h1, h2, _, _, h5⟩
  exact ⟨b, c, h1, h2, h5⟩
/-- a node is put -/
theorem BkAt.put_calls {base : Nat} {wr : World} {P : List Nd} {ga ca : Nat} {vn vb : Value} {vs : List (Value × Value)} (h : BkAt base wr P ga ca vn vb vs) (hu : Under P) (hP : P.length ≤ 90000) (W : World) (hW : Below wr.heap.size wr W) (vl vr : Value) (L R : List Nat) (l1 h1 l2 h2 : Nat) (hh1 : h1 ≤ W.heap.size) (hh2 : h2 ≤ W.heap.size)
    (hvl : IntsZ W l1 h1 vl (upL (L.map (fun x => (addF [] P).2.getD x 0)))) (hvr : IntsZ W l2 h2 vr (upL (R.map (fun x => (addF [] P).2.getD x 0)))) (hL : ∀ x ∈ L, x < P.length) (hR : ∀ x ∈ R, x < P.length) (hlL : L.length ≤ 90000) (hlR : R.length ≤ 90000) :
    Calls Try.prog 88 #[.pointer (some ⟨base, 0, none⟩), vl, vr] W fun e w' => e = .returned (.int .i64 ((seatAt P L R : Nat) : Int)) ∧ ∃ vn' vb' vs', Bk base w' base (addF [] (P ++ [(L, R)])).1 (bornsOf (addF [] (P ++ [(L, R)])).1) vn' vb' vs' (fun g => g = ga) ∧ Only W w' (Foot base vn vb) ∧ (∀ g, g < W.heap.size → Foot base vn' vb' g → Foot base vn vb g) := by
  have ha := addF_added [] book_nil P hu
  have hs := h.size
  have hlt : ∀ x, x < P.length → (addF [] P).2.getD x 0 < (addF [] P).1.length := fun x hx => by
    obtain ⟨n0, hn0⟩ := lt_get hx
    exact get_lt (ha.node x n0 hn0)
  have hlen := (addF_len [] P).2
  have hc := Go.Proofs.Ytabfdaofikccmaa.put_calls base base (addF [] P).1 vn vb vs (fun g => g = ga) vl vr (L.map (fun x => (addF [] P).2.getD x 0)) (R.map (fun x => (addF [] P).2.getD x 0)) W l1 h1 l2 h2 hh1 hh2 (h.bk.below hW) (fun g e => by have := hW.size; omega) ha.book.struct.under hvl hvr
    (fun y hy => by obtain ⟨x, hx, rfl⟩ := List.mem_map.1 hy; exact hlt x (hL x hx)) (fun y hy => by obtain ⟨x, hx, rfl⟩ := List.mem_map.1 hy; exact hlt x (hR x hx)) (by simp at hlen; omega) (by simp; omega) (by simp; omega)
  rw [at_add]
  exact hc
/-- ... and its place told -/
theorem BkAt.next {base : Nat} {wr W w6 w7 : World} {P : List Nd} {ga ca : Nat} {vn vb vn' vb' v7 : Value} {vs vs' : List (Value × Value)} {L R : List Nat} (h : BkAt base wr P ga ca vn vb vs) (hW : Below wr.heap.size wr W)
    (hK6 : Bk base w6 base (addF [] (P ++ [(L, R)])).1 (bornsOf (addF [] (P ++ [(L, R)])).1) vn' vb' vs' (fun g => g = ga)) (ho6 : Only W w6 (Foot base vn vb)) (hf6 : ∀ g, g < W.heap.size → Foot base vn' vb' g → Foot base vn vb g)
    (hown7 : w7.ownsRow base 3 1 v7 (P.length + 1) ((addF [] P).2.map iv ++ [iv (seatAt P L R)])) (hgrow7 : (w6.alloc (.cells #[.int .i64 ((seatAt P L R : Nat) : Int)] 3)).grownBy w7 (Value.slice (some ⟨ga, 0, none⟩) P.length ca).ownBlock)
    (hat7 : v7.ownBlock = (Value.slice (some ⟨ga, 0, none⟩) P.length ca).ownBlock ∨ v7.ownBlock = some (w6.alloc (.cells #[.int .i64 ((seatAt P L R : Nat) : Int)] 3)).heap.size) :
    ∃ g7 c7, v7 = .slice (some ⟨g7, 0, none⟩) (P.length + 1) c7 ∧ Hid (BkAt base w7 (P ++ [(L, R)]) g7 c7 vn' vb' vs') ∧ Hid (Only wr w7 (fun g => Foot base vn vb g ∨ g = ga)) ∧ Hid (Below base wr w7) := by
  obtain ⟨g7, c7, rfl, _, hg7h⟩ := hown7.form (by omega)
  have hs := h.size
  have hga := h.lt
  have HAPP : Only (w6.alloc (.cells #[.int .i64 ((seatAt P L R : Nat) : Int)] 3)) w7 (fun g => g = ga) := Only.of_grown hgrow7 (fun g e => by injection e with e; exact e.symm)
  have HK7a := hK6.below ((Below.refl w6.heap.size w6).alloc (Nat.le_refl _) (.cells #[.int .i64 ((seatAt P L R : Nat) : Int)] 3))
  have hz6 : (w6.alloc (.cells #[.int .i64 ((seatAt P L R : Nat) : Int)] 3)).heap.size = w6.heap.size + 1 := by simp
  have hz5 := hW.size
  have hs6 := ho6.size
  have hgaF : ¬ Foot base vn' vb' ga := fun hF => h.nf (hf6 ga (by omega) hF)
  have hat : g7 = ga ∨ g7 = w6.heap.size + 1 := by
    rcases hat7 with e | e
    · left; injection e
    · right; rw [hz6] at e; injection e
  have HK7b := (HK7a.reX (Y := fun g => g = ga ∨ g = w6.heap.size + 1) (fun g hg e => by rw [hz6] at hg; omega)).only (HAPP.mono (fun i _ e => Or.inl e)) (fun g hF e => by
    rcases e with e | e
    · exact hgaF (e ▸ hF)
    · have := (HK7a.lt g hF).2; rw [hz6] at this; omega)
  have HK7 : Bk base w7 base (addF [] (P ++ [(L, R)])).1 (bornsOf (addF [] (P ++ [(L, R)])).1) vn' vb' vs' (fun g => g = g7) := HK7b.reX (fun g _ e => by subst e; exact hat)
  have HNF7 : ¬ Foot base vn' vb' g7 := fun hF => by
    rcases hat with e | e
    · exact hgaF (e ▸ hF)
    · have := (HK7a.lt g7 hF).2; rw [hz6] at this; omega
  have OT : Only wr w7 (fun g => Foot base vn vb g ∨ g = ga) :=
    (((Only.of_below (F := fun g => Foot base vn vb g ∨ g = ga) hW).trans ho6 (fun i _ h => Or.inl h)).trans (Only.of_below (F := fun g => Foot base vn vb g ∨ g = ga) ((Below.refl w6.heap.size w6).alloc (Nat.le_refl _) (.cells #[.int .i64 ((seatAt P L R : Nat) : Int)] 3))) (fun i _ h => h)).trans HAPP (fun i _ h => Or.inr h)
  refine ⟨g7, c7, rfl, Lib.hid ⟨HK7, ?_, by omega, HNF7⟩, Lib.hid OT, Lib.hid (OT.below (by omega) (fun g hg => by
    rcases hg with hg | hg
    · exact (h.bk.lt g hg).1
    · omega))⟩
  rw [at_add, List.map_append, List.length_append]
  exact hown7
end

section
open Go.RowKit
set_option linter.unusedVariables false
set_option linter.unusedSimpArgs false
theorem goodS_res (v : Value) (f : List Nz) (r : Bool) (hr : Hid (goodB f = r)) (w : World) (lo hi : Nat) (hh : hi ≤ w.heap.size) (hv : NodesZ w lo hi v f) :
    Calls Try.prog 41 #[.agg #[v]] w fun e w' => e = .returned (.bool r) ∧ Below w.heap.size w w' := by
  rw [← hr.out]
  exact goodS_calls v f w lo hi hh hv
end

section
section
open Go.RowKit
set_option linter.unusedVariables false
set_option linter.unusedSimpArgs false
theorem slice_form {w : World} {lo hi : Nat} {v : Value} {f : List Nz} (h : NodesZ w lo hi v f) : ∃ a c, v = .slice a f.length c := by obtain ⟨a, c, e, _⟩ := h; exact ⟨a, c, e⟩
theorem l3If_calls (v : Value) (f : List Nz) (ok : Bool) (hok : Hid (fitsB f = ok)) (w : World) (lo hi : Nat) (hh : hi ≤ w.heap.size) (hv : NodesZ w lo hi v f) :
    Calls Try.prog 69 #[.agg #[v]] w fun e w' => e = .returned (.tuple #[.agg #[if ok then v else .slice none 0 0], .bool ok]) ∧ Below w.heap.size w w' := by
  have HB0 := Lib.hid fun o o' => show Below w.heap.size w ((w.alloc o).alloc o') from ((Below.refl _ _).alloc (Nat.le_refl _) _).alloc (by simp) _
  have C := Lib.hid fun (W : World) (hW : Below w.heap.size w W) => show Calls Try.prog 73 #[.agg #[v]] W fun e w' => e = .returned (.bool ok) ∧ Below W.heap.size W w' from by
    rw [← hok.out]
    exact fitsS_calls v f W lo hi (Nat.le_trans hh hW.size) (hv.below hW hh)
  obtain ⟨av, cv, rfl⟩ := slice_form hv
  clear hok hv
  go_enter Try.func69, Try.ntmps69
  go_wp2_with fail
  refine (C.out _ (HB0.out _ _)).mono ?_
  rintro e w4 ⟨rfl, hb4⟩
  have k0 : w4.cell? ⟨w.heap.size, 0, none⟩ = some (.slice av f.length cv) := (bcell hb4 _ _ (by simp; omega)).trans (by go_simp)
  obtain ⟨d0, z0⟩ : BoxAt w4 (w.heap.size + 1) (.slice none 0 0) := BoxAt.below ⟨by go_simp, by go_simp⟩ hb4
  have HB4 := Lib.hid (Below.trans (HB0.out _ _) (hb4.mono (by simp; omega)))
  have hlt := block_of_cell d0
  clear hb4 C
  cases ok with
  | false =>
    have B4 := Lib.hid (HB4.out.setCell (p := ⟨w.heap.size + 1, 0, none⟩) (by show w.heap.size ≤ w.heap.size + 1; omega) (.slice none 0 0))
    have hcr := World.cell?_setCell_same w4 ⟨w.heap.size + 1, 0, none⟩ (.slice none 0 0) d0
    go_wp2_with fail
    exact bodyPost_ret (v := .tuple #[.agg #[.slice none 0 0], .bool false]) (by simp [results, Try.results69, go_sem, hcr]) rfl ⟨rfl, B4.out⟩
  | true =>
    have B4 := Lib.hid (HB4.out.setCell (p := ⟨w.heap.size + 1, 0, none⟩) (by show w.heap.size ≤ w.heap.size + 1; omega) (.slice av f.length cv))
    have hcr := World.cell?_setCell_same w4 ⟨w.heap.size + 1, 0, none⟩ (.slice av f.length cv) d0
    go_wp2_with fail
    exact bodyPost_ret (v := .tuple #[.agg #[.slice av f.length cv], .bool true]) (by simp [results, Try.results69, go_sem, hcr]) rfl ⟨rfl, B4.out⟩
theorem fitsN_B (P : List Nd) : fitsN P = fitsB (P.map upN) := by
  have h1 := fitsN_iff P
  have h2 := fitsB_iff (P.map upN)
  cases hN : fitsN P <;> cases hB : fitsB (P.map upN)
  · rfl
  · rw [h2] at hB; rw [h1.2 hB] at hN; exact hN.symm
  · rw [h1] at hN; rw [h2.2 hN] at hB; exact hB
  · rfl
end
end

section
section
open Go.RowKit
set_option linter.unusedVariables false
set_option linter.unusedSimpArgs false
theorem mulS_cast {m n : Nat} (h : m * n ≤ 1000000) : IntKind.i64.wrap ((m : Int) * (n : Int)) = ((m * n : Nat) : Int) := by
  rw [← Int.natCast_mul]
  exact IntWalk.i64_in _ (by omega)
set_option maxRecDepth 100000 in
set_option maxHeartbeats 2000000 in
theorem l5Pair_calls (va vb : Value) (f g : List Nz) (r : Bool) (hr : Hid (pairB f g = r)) (w : World) (lo hi lo' hi' : Nat) (hh : hi ≤ w.heap.size) (hh' : hi' ≤ w.heap.size) (hva : NodesZ w lo hi va f) (hvb : NodesZ w lo' hi' vb g) :
    Calls Try.prog 68 #[.agg #[va], .agg #[vb]] w fun e w' => e = .returned (.bool r) ∧ Below w.heap.size w w' := by
  have HB0 := Lib.hid fun o o' => show Below w.heap.size w ((w.alloc o).alloc o') from ((Below.refl _ _).alloc (Nat.le_refl _) _).alloc (by simp) _
  obtain ⟨r1, h1⟩ : ∃ r, goodB f = r := ⟨_, rfl⟩
  obtain ⟨r2, h2⟩ : ∃ r, goodB g = r := ⟨_, rfl⟩
  have HR := Lib.hid (pairB_parts h1 h2 hr.out)
  have HLA : Hid (r1 = true → f.length ≤ 120) := Lib.hid (fun e => (good_parts (h1.trans e)).2.2.2.2.1)
  have HLB : Hid (r2 = true → g.length ≤ 120) := Lib.hid (fun e => (good_parts (h2.trans e)).2.2.2.2.1)
  have CA := Lib.hid fun (W : World) (hW : Below w.heap.size w W) => goodS_res va f r1 (Lib.hid h1) W lo hi (Nat.le_trans hh hW.size) (hva.below hW hh)
  have CB := Lib.hid fun (W : World) (hW : Below w.heap.size w W) => goodS_res vb g r2 (Lib.hid h2) W lo' hi' (Nat.le_trans hh' hW.size) (hvb.below hW hh')
  obtain ⟨aa, ca, rfl⟩ : ∃ ao c, va = .slice ao f.length c := by obtain ⟨ao, c, e, _⟩ := hva; exact ⟨ao, c, e⟩
  obtain ⟨ab, cb, rfl⟩ : ∃ ao c, vb = .slice ao g.length c := by obtain ⟨ao, c, e, _⟩ := hvb; exact ⟨ao, c, e⟩
  clear h1 h2 hr hva hvb
  go_enter Try.func68, Try.ntmps68
  go_wp2_with fail
  refine (CA.out _ (HB0.out _ _)).mono ?_
  rintro e w4 ⟨rfl, hb4⟩
  have k1 : w4.cell? ⟨w.heap.size, 0, none⟩ = some (.slice aa f.length ca) := (bcell hb4 _ _ (by simp; omega)).trans (by go_simp)
  have k2 : w4.cell? ⟨w.heap.size + 1, 0, none⟩ = some (.slice ab g.length cb) := (bcell hb4 _ _ (by simp)).trans (by go_simp)
  have HB4 := Lib.hid (Below.trans (HB0.out _ _) (hb4.mono (by simp; omega)))
  clear hb4 CA
  cases r1 with
  | false =>
    obtain rfl := HR.out
    go_wp2_with fail
    go_ret
    exact ⟨rfl, HB4.out⟩
  | true =>
    have b1 := block_of_cell k1
    have b2 := block_of_cell k2
    go_wp2_with fail
    refine (CB.out _ HB4.out).mono ?_
    rintro e w5 ⟨rfl, hb5⟩
    have k1 := (bcell hb5 _ _ b1).trans k1
    have k2 := (bcell hb5 _ _ b2).trans k2
    have HB5 := Lib.hid (HB4.out.trans (hb5.mono HB4.out.size))
    clear hb5 b1 b2
    cases r2 with
    | false =>
      obtain rfl := HR.out
      go_wp2_with fail
      go_ret
      exact ⟨rfl, HB5.out⟩
    | true =>
      have hla : f.length ≤ 120 := by have h := HLA.out; simpa using h
      have hlb : g.length ≤ 120 := by have h := HLB.out; simpa using h
      have hAB : f.length * g.length ≤ 120 * 120 := Nat.mul_le_mul hla hlb
      obtain ⟨n, hn⟩ : ∃ n : Nat, f.length * g.length = n := ⟨_, rfl⟩
      have HR2 : Hid (r = decide (n ≤ 1600)) := Lib.hid (by rw [HR.out, hn]; rfl)
      have hwm : IntKind.i64.wrap ((f.length : Int) * (g.length : Int)) = (n : Int) := by rw [mul_cast (by omega), hn]
      rw [hn] at hAB
      clear hn HR
      have hde : decide ((n : Int) ≤ 1600) = r := by rw [HR2.out]; exact decide_eq_decide.2 (by clear hwm; omega)
      go_wp2_with fail
      go_ret
      exact ⟨by first | rfl | exact ret_bool hde, HB5.out⟩
end
end

section
section
open Go.RowKit
set_option linter.unusedVariables false
set_option linter.unusedSimpArgs false
theorem nodeS_at {P : List Nd} {w : World} {lo hi : Nat} {ao : Option Addr} {c i : Nat} {nd : Nd} (h : NodesZ w lo hi (.slice ao P.length c) (P.map upN)) (hnd : P[i]? = some nd) :
    ∃ b off x1 y1 x2 y2, ao = some ⟨b, off, none⟩ ∧ w.cell? ⟨b, off + i * 2, none⟩ = some (.slice x1 nd.1.length y1) ∧ w.cell? ⟨b, off + i * 2 + 1, none⟩ = some (.slice x2 nd.2.length y2) ∧ IntsZ w lo hi (.slice x1 nd.1.length y1) (upL nd.1) ∧ IntsZ w lo hi (.slice x2 nd.2.length y2) (upL nd.2) := by
  obtain ⟨b, off, cc, v1, v2, e, hbh, p1, p2, i1, i2⟩ := nodes_atP h hnd
  obtain ⟨q1, q2, q3⟩ := slice_inj e
  obtain ⟨a1, d1, rfl, _⟩ := ints_lenP i1
  obtain ⟨a2, d2, rfl, _⟩ := ints_lenP i2
  exact ⟨b, off, a1, d1, a2, d2, q1, p1, p2, i1, i2⟩
theorem at_cell {base : Nat} {wr : World} {P : List Nd} {ga ca : Nat} {vn vb : Value} {vs : List (Value × Value)} (h : BkAt base wr P ga ca vn vb vs) {x : Nat} (hx : x < P.length) : wr.cell? ⟨ga, x, none⟩ = some (.int .i64 (((addF [] P).2.getD x 0 : Nat) : Int)) := by
  obtain ⟨z, hz⟩ := lt_get (l := (addF [] P).2) (i := x) (by rw [at_len]; exact hx)
  rw [World.ownsRow.cellAt h.own x (by omega), List.getElem?_map, hz, List.getD_eq_getElem?_getD, hz]
  rfl
end
end

section
section
open Go.RowKit
set_option linter.unusedVariables false
set_option linter.unusedSimpArgs false
theorem sumL_map (n i j : Nat) (a b : List Nat) (h : Nat → Nat) : (sumLP n i j a b).map h = a.map (fun o => h (o * n + j)) ++ b.map (fun o => h (i * n + o)) := by
  unfold sumLP
  rw [List.map_append, List.map_map, List.map_map]
  rfl
set_option maxRecDepth 100000 in
set_option maxHeartbeats 60000000 in
theorem l5Sum_calls (A B : List Nd) (aa ab : Option Addr) (ca cb : Nat) (w : World) (lo hi lo' hi' : Nat) (hh : hi ≤ w.heap.size) (hh' : hi' ≤ w.heap.size) (ha : NodesZ w lo hi (.slice aa A.length ca) (A.map upN)) (hb : NodesZ w lo' hi' (.slice ab B.length cb) (B.map upN))
    (hA : A.length ≤ 120) (hB : B.length ≤ 120) (pA : 0 < A.length) (pB : 0 < B.length) (uA : Under A) (uB : Under B) (sA : ∀ nd ∈ A, nd.1.length ≤ 24 ∧ nd.2.length ≤ 24) (sB : ∀ nd ∈ B, nd.1.length ≤ 24 ∧ nd.2.length ≤ 24) :
    Calls Try.prog 70 #[.agg #[.slice aa A.length ca], .agg #[.slice ab B.length cb]] w fun e w' => ∃ v, e = .returned (.agg #[v]) ∧ NodesZ w' w.heap.size w'.heap.size v ((formM (sumN A B)).map upN) ∧ Below w.heap.size w w' := by
  obtain ⟨iI, hiI, hzI0, hzI1, hzI2⟩ := info_parts infoIntA
  have HA := Lib.hid fun (W : World) (hW : Below w.heap.size w W) => ha.below hW hh
  have HB := Lib.hid fun (W : World) (hW : Below w.heap.size w W) => hb.below hW hh'
  have UA := Lib.hid uA
  have UB := Lib.hid uB
  have SA := Lib.hid sA
  have SB := Lib.hid sB
  have US := Lib.hid (sumN_under uA uB)
  have SL := Lib.hid (sumN_len A B)
  have SAT := Lib.hid fun (i j : Nat) (hi : i < A.length) (hj : j < B.length) => sumN_at hi hj
  have SSM := Lib.hid fun (i j : Nat) (hi : i < A.length) (hj : j < B.length) => sumAt_small sA sB hi hj
  have e0 : (((w.alloc (.cells #[.slice aa A.length ca] 28)).alloc (.cells #[.slice ab B.length cb] 28)).alloc (.cells #[.slice none 0 0] 28)).heap.size = w.heap.size + 3 := by simp
  have hst := BkAt.start (((w.alloc (.cells #[.slice aa A.length ca] 28)).alloc (.cells #[.slice ab B.length cb] 28)).alloc (.cells #[.slice none 0 0] 28))
  rw [e0] at hst
  have HST := Lib.hid hst
  have HB0 : Hid (Below w.heap.size w (((((w.alloc (.cells #[.slice aa A.length ca] 28)).alloc (.cells #[.slice ab B.length cb] 28)).alloc (.cells #[.slice none 0 0] 28)).alloc (.cells #[.slice none 0 0, .slice none 0 0] 101)).alloc (.cells #[] 3))) :=
    Lib.hid ((((((Below.refl _ _).alloc (Nat.le_refl _) _).alloc (by simp) _).alloc (by simp; omega) _).alloc (by simp; omega) _).alloc (by simp; omega) _)
  have hAB : A.length * B.length ≤ 120 * 120 := Nat.mul_le_mul hA hB
  clear ha hb uA uB sA sB hst e0
  go_enter Try.func70, Try.ntmps70
  go_wp2
  go_loopw [7, 8] (fun q t wr => ∃ (i p ga ca' : Nat) (vn vb : Value) (vs : List (Value × Value)), i ≤ A.length ∧ t = .int .i64 i ∧ q = .slice (some ⟨ga, 0, none⟩) p ca' ∧ Hid (p = i * B.length) ∧ Hid (BkAt (w.heap.size + 3) wr ((sumN A B).take p) ga ca' vn vb vs) ∧
      Hid (Below w.heap.size w wr) ∧ Hid (BoxAt wr (w.heap.size + 2) (.slice none 0 0)) ∧ wr.cell? ⟨w.heap.size, 0, none⟩ = some (.slice aa A.length ca) ∧ wr.cell? ⟨w.heap.size + 1, 0, none⟩ = some (.slice ab B.length cb)) (fun _ t _ => A.length - (intOf t).toNat)
  case atStart => exact ⟨0, 0, w.heap.size + 3 + 1, 0, _, _, _, Nat.zero_le _, rfl, rfl, Lib.hid (by omega), by rw [List.take_zero]; exact HST, HB0, Lib.hid ⟨by go_simp, by go_simp⟩, by go_simp, by go_simp⟩
  case round =>
    obtain ⟨i, p, ga, ca', vn, vb, vs, hi0, rfl, rfl, hp, hK, hbw, hx, kf, kg⟩ := hrel
    clear HST HB0
    by_cases hlt : i < A.length
    · have i0 : (0 : Int) ≤ i := by omega
      have i1 : (i : Int) < A.length := by omega
      obtain ⟨W0, hW0⟩ : ∃ W, W = wr := ⟨_, rfl⟩
      subst hW0
      have hpl : p ≤ 120 * 120 := by
        have h1 := hp.out
        have h2 : i * B.length ≤ A.length * B.length := Nat.mul_le_mul_right _ (by omega)
        omega
      go_wp2
      go_loopw [7, 9] (fun q t wr => ∃ (k p' ga ca' : Nat) (vn vb : Value) (vs : List (Value × Value)), k ≤ B.length ∧ t = .int .i64 k ∧ q = .slice (some ⟨ga, 0, none⟩) p' ca' ∧ Hid (p' = i * B.length + k) ∧ Hid (BkAt (w.heap.size + 3) wr ((sumN A B).take p') ga ca' vn vb vs) ∧
          Hid (RowKit.Below w.heap.size w wr) ∧ Hid (BoxAt wr (w.heap.size + 2) (.slice none 0 0)) ∧ wr.cell? ⟨w.heap.size, 0, none⟩ = some (.slice aa A.length ca) ∧ wr.cell? ⟨w.heap.size + 1, 0, none⟩ = some (.slice ab B.length cb)) (fun _ t _ => B.length - (intOf t).toNat)
      case atStart => exact ⟨0, p, ga, ca', vn, vb, vs, Nat.zero_le _, rfl, rfl, Lib.hid (by have := hp.out; omega), hK, hbw, hx, kf, kg⟩
      case round =>
        clear hp hK hbw hx kf kg hpl
        obtain ⟨k, p', ga, ca', vn, vb, vs, hk, rfl, rfl, hp, hK, hbw, hx, kf, kg⟩ := hrel
        by_cases hlt2 : k < B.length
        · have k0 : (0 : Int) ≤ k := by omega
          have k1 : (k : Int) < B.length := by omega
          have hpl : p' < A.length * B.length := by rw [hp.out]; exact pair_lt hlt hlt2
          obtain ⟨na, hna⟩ := lt_get hlt
          obtain ⟨nb, hnb⟩ := lt_get hlt2
          obtain ⟨b1, o1, x1, y1, x2, y2, q1, c1, c2, I1, I2⟩ := nodeS_at (HA.out wr hbw.out) hna
          obtain ⟨b2, o2, x3, y3, x4, y4, q2, c3, c4, I3, I4⟩ := nodeS_at (HB.out wr hbw.out) hnb
          have hlA := UA.out i na hna
          have hlB := UB.out k nb hnb
          have hsA := SA.out na (List.mem_of_getElem? hna)
          have hsB := SB.out nb (List.mem_of_getElem? hnb)
          have hnd := SAT.out i k hlt hlt2
          have hsm := SSM.out i k hlt hlt2
          have hse : sumAt A B i k = (sumLP B.length i k na.1 nb.1, sumLP B.length i k na.2 nb.2) := by unfold sumAt; rw [getD_at hna, getD_at hnb]
          rw [hse, ← hp.out] at hnd
          rw [hse] at hsm
          have hbs := hbw.out.size
          have hks := hK.out.size
          have htl : ((sumN A B).take p').length = p' := by rw [List.length_take, SL.out]; omega
          obtain ⟨P, hP⟩ : ∃ P, (sumN A B).take p' = P := ⟨_, rfl⟩
          have HTS := Lib.hid (take_snoc' hnd)
          have HTU := Lib.hid (under_take US.out p')
          rw [hP] at hK htl HTS HTU
          have HTL := Lib.hid htl
          obtain ⟨AT, hAT⟩ : ∃ f : Nat → Nat, (fun x => (addF [] P).2.getD x 0) = f := ⟨_, rfl⟩
          have HAT := Lib.hid fun (W : World) (hW : RowKit.Below wr.heap.size wr W) (x : Nat) (hx : x < p') => show W.cell? ⟨ga, x, none⟩ = some (.int .i64 ((AT x : Nat) : Int)) from by
            rw [← hAT]
            exact at_cell (hK.out.below hW) (by rw [htl]; exact hx)
          have HAE := Lib.hid hAT
          have HNA := Lib.hid hna
          have HNB := Lib.hid hnb
          have J1 := Lib.hid I1
          have J2 := Lib.hid I2
          have J3 := Lib.hid I3
          have J4 := Lib.hid I4
          have HlA := Lib.hid hlA
          have HlB := Lib.hid hlB
          have Hsm := Lib.hid hsm
          have HND := Lib.hid hnd
          have hga := hK.out.lt
          have HNF := Lib.hid hK.out.nf
          have bl1 := block_of_cell c1
          have bl2 := block_of_cell c2
          have bl3 := block_of_cell c3
          have bl4 := block_of_cell c4
          have blf := block_of_cell kf
          have blg := block_of_cell kg
          obtain ⟨W1, hW1⟩ : ∃ W, W = wr := ⟨_, rfl⟩
          subst hW1
          subst q1 q2
          clear hna hnb I1 I2 I3 I4 hlA hlB hnd hsm hse htl hP hAT
          have hz1 : (W1.alloc (.cells #[] 3)).heap.size = W1.heap.size + 1 := by simp
          have hla : RowKit.Below (W1.alloc (.cells #[] 3)).heap.size (W1.alloc (.cells #[] 3)) ((W1.alloc (.cells #[] 3)).alloc (.cells #[] 3)) := (RowKit.Below.refl _ _).alloc (Nat.le_refl _) _
          have HBE : Hid (RowKit.Below W1.heap.size W1 ((W1.alloc (.cells #[] 3)).alloc (.cells #[] 3))) := Lib.hid (((RowKit.Below.refl _ _).alloc (Nat.le_refl _) _).alloc (by simp) _)
          have HLE : Hid (OwnI ((W1.alloc (.cells #[] 3)).alloc (.cells #[] 3)) W1.heap.size (.slice (some ⟨W1.heap.size, 0, none⟩) 0 0) (upL (List.map (fun o => AT (o * B.length + k)) (List.take 0 na.1)))) := Lib.hid (by
            rw [List.take_zero]
            exact OwnI.below (World.ownsRow_lit (base := W1.heap.size) (e := 3) (size := 1) W1 #[] 0 (Nat.le_refl _) (by unfold maxLen; omega) rfl) hla)
          have HRE : Hid (OwnI ((W1.alloc (.cells #[] 3)).alloc (.cells #[] 3)) W1.heap.size (.slice (some ⟨W1.heap.size + 1, 0, none⟩) 0 0) []) := Lib.hid (by
            have h := World.ownsRow_lit (base := W1.heap.size) (e := 3) (size := 1) (W1.alloc (.cells #[] 3)) #[] 0 (by simp) (by unfold maxLen; omega) rfl
            rw [hz1] at h
            exact h)
          have HAPE : Hid (Apart (.slice (some ⟨W1.heap.size + 1, 0, none⟩) 0 0) (.slice (some ⟨W1.heap.size, 0, none⟩) 0 0)) := Lib.hid (fun g e1 e2 => by have := own_eqp e1; have := own_eqp e2; omega)
          have HSE : W1.heap.size + 2 ≤ ((W1.alloc (.cells #[] 3)).alloc (.cells #[] 3)).heap.size := by simp
          clear hla hz1
          go_wp2
          go_loopw [10, 12] (fun v t wr => ∃ (m len : Nat) (a : Option Addr) (c : Nat), m ≤ na.1.length ∧ t = .int .i64 m ∧ v = .slice a len c ∧ Hid (len = ((na.1.take m).map (fun o => AT (o * B.length + k))).length) ∧ Hid (OwnI wr W1.heap.size (.slice a len c) (upL ((na.1.take m).map (fun o => AT (o * B.length + k))))) ∧ Hid (RowKit.Below W1.heap.size W1 wr) ∧
            Hid (OwnI wr W1.heap.size (.slice (some ⟨W1.heap.size + 1, 0, none⟩) 0 0) []) ∧ Hid (Apart (.slice (some ⟨W1.heap.size + 1, 0, none⟩) 0 0) (.slice a len c)) ∧ W1.heap.size + 2 ≤ wr.heap.size) (fun _ t _ => na.1.length - (intOf t).toNat)
          case atStart => exact ⟨0, 0, some ⟨W1.heap.size, 0, none⟩, 0, Nat.zero_le _, rfl, rfl, Lib.hid (by simp), HLE, HBE, HRE, HAPE, HSE⟩
          case round =>
            obtain ⟨m, len, a, c, hm, rfl, rfl, hl, ho, hb1, hou, hap, hsz⟩ := hrel
            have kf' := (bcell hb1.out _ _ blf).trans kf
            have kg' := (bcell hb1.out _ _ blg).trans kg
            have cc' := (bcell hb1.out _ _ bl1).trans c1
            by_cases hlt3 : m < na.1.length
            · obtain ⟨o, hox⟩ := lt_get hlt3
              have hob := HlA.out o (Or.inl (List.mem_of_getElem? hox))
              obtain ⟨bx, ox, hxa, _, hxc⟩ := ints_atP (J1.out.below hb1.out (Nat.le_trans hh hbs)) hox
              subst hxa
              have g5 : W1.heap.size ≤ wr.heap.size + 1 := by omega
              obtain ⟨q, hq⟩ : ∃ q, o * B.length = q := ⟨_, rfl⟩
              have hidx : q + k < p' := by
                rw [hp.out, ← hq]
                have h5 : (o + 1) * B.length ≤ i * B.length := Nat.mul_le_mul_right _ (by omega)
                rw [Nat.add_mul] at h5
                omega
              have s0 : (0 : Int) ≤ (q : Int) + (k : Int) := by omega
              have s1 : (q : Int) + (k : Int) < p' := by omega
              have s2 : ((q : Int) + (k : Int)).toNat = q + k := by omega
              have hat := HAT.out wr hb1.out (q + k) hidx
              obtain ⟨z, hz⟩ : ∃ z, AT (q + k) = z := ⟨_, rfl⟩
              rw [hz] at hat
              have HZ : Hid ((fun o => AT (o * B.length + k)) o = z) := Lib.hid (by rw [← hz, ← hq])
              have m0 : (0 : Int) ≤ m := by omega
              have m1 : (m : Int) < na.1.length := by omega
              have o0 : (0 : Int) ≤ o := by omega
              have o1' : (o : Int) ≤ 120 := by omega
              have hll : (upL ((na.1.take m).map (fun o => AT (o * B.length + k)))).length ≤ 60 := by rw [upL_len]; simp only [List.length_append, List.length_map, List.length_take]; omega
              obtain ⟨PL, hPL⟩ : ∃ l, (na.1.take m).map (fun o => AT (o * B.length + k)) = l := ⟨_, rfl⟩
              rw [hPL] at ho hll
              have g3 : (upL PL).length + 1 ≤ maxLen := by unfold maxLen; omega
              have g4 : ((upL PL).length + 1) * 8 ≤ 140737488355328 := by omega
              have s3 : IntKind.i64.wrap ((q : Int) + (k : Int)) = (q : Int) + (k : Int) := IntWalk.i64_in _ (by omega)
              have hwm : IntKind.i64.wrap ((o : Int) * (B.length : Int)) = (q : Int) := by rw [← hq]; exact mulS_cast (Nat.le_trans (Nat.mul_le_mul (show o ≤ 120 by omega) hB) (by omega))
              have HPL := Lib.hid hPL
              have HOX := Lib.hid hox
              have HQ := Lib.hid hq
              clear hox hq hz hPL
              go_wp2_with (at_builtin; refine wpList_append_own_at _ rfl _ _ 34 rfl W1.heap.size 3 iI (.int .i64 0) 1 8 Try.underlying34 hiI hzI0 hzI1 hzI2 rfl (by decide) _ _ _ rfl (World.ownsRow.alloc ho.out _) ⟨wr.heap.size, 0, none⟩ 1 1 [.int .i64 (z : Int)] rfl rfl ?ea1 ?ea2 ?ea3 ?ea4 ?ea5 ?_)
              try (case ea1 => exact World.news_of_block (heap_alloc_new _ _))
              try (case ea2 => first | rfl | (intro u hu; simp at hu; subst hu; rfl))
              try (case ea3 => exact g3)
              try (case ea4 => exact g4)
              try (case ea5 => simp only [World.size_alloc]; exact g5)
              try (case ea5 => simpa using g5)
              intro v6 w6 hown6 hgrow6 hnil6 hat6
              clear hwm s3 s0 s1 s2
              have hal : RowKit.Below wr.heap.size wr (wr.alloc (.cells #[.int .i64 (z : Int)] 3)) := (RowKit.Below.refl _ _).alloc (Nat.le_refl _) _
              have hol := ho.out.lt
              have O6 : OwnI w6 W1.heap.size v6 (upL ((na.1.take (m + 1)).map (fun o => AT (o * B.length + k)))) := by
                have e : (na.1.take (m + 1)).map (fun o => AT (o * B.length + k)) = PL ++ [z] := by
                  rw [take_snoc' HOX.out, List.map_append, ← HPL.out]
                  rw [show [o].map (fun o => AT (o * B.length + k)) = [z] from by rw [List.map_singleton, HZ.out]]
                  try (first | rfl | rw [← List.append_assoc])
                rw [e, upL_snoc]
                unfold OwnI
                rw [List.map_append, List.length_append]
                exact hown6
              obtain ⟨a6, c6, hv6⟩ := O6.form
              have hm6 : (upL ((na.1.take (m + 1)).map (fun o => AT (o * B.length + k)))).length = len + 1 := by
                rw [upL_len]
                have := hl.out
                simp only [List.length_append, List.length_map, List.length_take] at this ⊢
                omega
              rw [hm6] at hv6
              subst hv6
              have HO6 := Lib.hid O6
              have ho6 : Only wr w6 (fun b => (Value.slice a len c).ownBlock = some b) := (Only.of_below (F := fun b => (Value.slice a len c).ownBlock = some b) hal).trans (Only.of_grown (F := fun b => (Value.slice a len c).ownBlock = some b) hgrow6 (fun g e => e)) (fun _ _ h => h)
              have HB6 := Lib.hid (hb1.out.trans (ho6.below (by omega) (fun g h => (hol g h).1)))
              have HU6 := Lib.hid (hou.out.only ho6 (fun g e1 e2 => hap.out g e1 e2))
              have HA6 : Hid (Apart (.slice (some ⟨W1.heap.size + 1, 0, none⟩) 0 0) (.slice a6 (len + 1) c6)) := Lib.hid (fun g e1 e2 => by
                rcases hat6 with h | h
                · exact hap.out g e1 (h ▸ e2)
                · rw [h] at e2
                  injection e2 with e2
                  have := hou.out.lt g e1
                  try simp at e2
                  omega)
              have hsz6 : W1.heap.size + 2 ≤ w6.heap.size := by have := ho6.size; omega
              have HM6 : Hid (len + 1 = ((na.1.take (m + 1)).map (fun o => AT (o * B.length + k))).length) := Lib.hid (by rw [← hm6, upL_len])
              clear hown6 hgrow6 hnil6 hat6 hal hol O6 hm6 ho6 ho hb1 hl hou hap hll hat hxc kf' kg' cc'
              go_wp2
              go_roundw
              case rel => exact ⟨m + 1, len + 1, a6, c6, by omega, by go_num, rfl, HM6, HO6, HB6, HU6, HA6, hsz6⟩
              case measure => first | (simp [intOf]; done) | (simp [intOf]; omega)
            · have hme : m = na.1.length := by omega
              subst hme
              rw [List.take_length] at ho hl
              go_wp2
              go_loopw [10, 13] (fun v t wr => ∃ (m len : Nat) (a : Option Addr) (c : Nat), m ≤ nb.1.length ∧ t = .int .i64 m ∧ v = .slice a len c ∧ Hid (len = (na.1.map (fun o => AT (o * B.length + k)) ++ (nb.1.take m).map (fun o => AT (i * B.length + o))).length) ∧ Hid (OwnI wr W1.heap.size (.slice a len c) (upL (na.1.map (fun o => AT (o * B.length + k)) ++ (nb.1.take m).map (fun o => AT (i * B.length + o))))) ∧ Hid (RowKit.Below W1.heap.size W1 wr) ∧
                Hid (OwnI wr W1.heap.size (.slice (some ⟨W1.heap.size + 1, 0, none⟩) 0 0) []) ∧ Hid (Apart (.slice (some ⟨W1.heap.size + 1, 0, none⟩) 0 0) (.slice a len c)) ∧ W1.heap.size + 2 ≤ wr.heap.size) (fun _ t _ => nb.1.length - (intOf t).toNat)
              case atStart => exact ⟨0, len, a, c, Nat.zero_le _, rfl, rfl, Lib.hid (by rw [List.take_zero, List.map_nil, List.append_nil]; exact hl.out), Lib.hid (by rw [List.take_zero, List.map_nil, List.append_nil]; exact ho.out), hb1, hou, hap, hsz⟩
              case round =>
                obtain ⟨m, len, a, c, hm, rfl, rfl, hl, ho, hb1, hou, hap, hsz⟩ := hrel
                have kf' := (bcell hb1.out _ _ blf).trans kf
                have kg' := (bcell hb1.out _ _ blg).trans kg
                have cc' := (bcell hb1.out _ _ bl3).trans c3
                by_cases hlt3 : m < nb.1.length
                · obtain ⟨o, hox⟩ := lt_get hlt3
                  have hob := HlB.out o (Or.inl (List.mem_of_getElem? hox))
                  obtain ⟨bx, ox, hxa, _, hxc⟩ := ints_atP (J3.out.below hb1.out (Nat.le_trans hh' hbs)) hox
                  subst hxa
                  have g5 : W1.heap.size ≤ wr.heap.size + 1 := by omega
                  obtain ⟨q, hq⟩ : ∃ q, i * B.length = q := ⟨_, rfl⟩
                  have hidx : q + o < p' := by
                    rw [hp.out, ← hq]
                    omega
                  have s0 : (0 : Int) ≤ (q : Int) + (o : Int) := by omega
                  have s1 : (q : Int) + (o : Int) < p' := by omega
                  have s2 : ((q : Int) + (o : Int)).toNat = q + o := by omega
                  have hat := HAT.out wr hb1.out (q + o) hidx
                  obtain ⟨z, hz⟩ : ∃ z, AT (q + o) = z := ⟨_, rfl⟩
                  rw [hz] at hat
                  have HZ : Hid ((fun o => AT (i * B.length + o)) o = z) := Lib.hid (by rw [← hz, ← hq])
                  have m0 : (0 : Int) ≤ m := by omega
                  have m1 : (m : Int) < nb.1.length := by omega
                  have o0 : (0 : Int) ≤ o := by omega
                  have o1' : (o : Int) ≤ 120 := by omega
                  have hll : (upL (na.1.map (fun o => AT (o * B.length + k)) ++ (nb.1.take m).map (fun o => AT (i * B.length + o)))).length ≤ 60 := by rw [upL_len]; simp only [List.length_append, List.length_map, List.length_take]; omega
                  obtain ⟨PL, hPL⟩ : ∃ l, na.1.map (fun o => AT (o * B.length + k)) ++ (nb.1.take m).map (fun o => AT (i * B.length + o)) = l := ⟨_, rfl⟩
                  rw [hPL] at ho hll
                  have g3 : (upL PL).length + 1 ≤ maxLen := by unfold maxLen; omega
                  have g4 : ((upL PL).length + 1) * 8 ≤ 140737488355328 := by omega
                  have s3 : IntKind.i64.wrap ((q : Int) + (o : Int)) = (q : Int) + (o : Int) := IntWalk.i64_in _ (by omega)
                  have hwm : IntKind.i64.wrap ((i : Int) * (B.length : Int)) = (q : Int) := by rw [← hq]; exact mulS_cast (Nat.le_trans (Nat.mul_le_mul (show i ≤ 120 by omega) hB) (by omega))
                  have HPL := Lib.hid hPL
                  have HOX := Lib.hid hox
                  have HQ := Lib.hid hq
                  clear hox hq hz hPL
                  go_wp2_with (at_builtin; refine wpList_append_own_at _ rfl _ _ 34 rfl W1.heap.size 3 iI (.int .i64 0) 1 8 Try.underlying34 hiI hzI0 hzI1 hzI2 rfl (by decide) _ _ _ rfl (World.ownsRow.alloc ho.out _) ⟨wr.heap.size, 0, none⟩ 1 1 [.int .i64 (z : Int)] rfl rfl ?eb1 ?eb2 ?eb3 ?eb4 ?eb5 ?_)
                  try (case eb1 => exact World.news_of_block (heap_alloc_new _ _))
                  try (case eb2 => first | rfl | (intro u hu; simp at hu; subst hu; rfl))
                  try (case eb3 => exact g3)
                  try (case eb4 => exact g4)
                  try (case eb5 => simp only [World.size_alloc]; exact g5)
                  try (case eb5 => simpa using g5)
                  intro v6 w6 hown6 hgrow6 hnil6 hat6
                  clear hwm s3 s0 s1 s2
                  have hal : RowKit.Below wr.heap.size wr (wr.alloc (.cells #[.int .i64 (z : Int)] 3)) := (RowKit.Below.refl _ _).alloc (Nat.le_refl _) _
                  have hol := ho.out.lt
                  have O6 : OwnI w6 W1.heap.size v6 (upL (na.1.map (fun o => AT (o * B.length + k)) ++ (nb.1.take (m + 1)).map (fun o => AT (i * B.length + o)))) := by
                    have e : na.1.map (fun o => AT (o * B.length + k)) ++ (nb.1.take (m + 1)).map (fun o => AT (i * B.length + o)) = PL ++ [z] := by
                      rw [take_snoc' HOX.out, List.map_append, ← HPL.out]
                      rw [show [o].map (fun o => AT (i * B.length + o)) = [z] from by rw [List.map_singleton, HZ.out]]
                      try (first | rfl | rw [← List.append_assoc])
                    rw [e, upL_snoc]
                    unfold OwnI
                    rw [List.map_append, List.length_append]
                    exact hown6
                  obtain ⟨a6, c6, hv6⟩ := O6.form
                  have hm6 : (upL (na.1.map (fun o => AT (o * B.length + k)) ++ (nb.1.take (m + 1)).map (fun o => AT (i * B.length + o)))).length = len + 1 := by
                    rw [upL_len]
                    have := hl.out
                    simp only [List.length_append, List.length_map, List.length_take] at this ⊢
                    omega
                  rw [hm6] at hv6
                  subst hv6
                  have HO6 := Lib.hid O6
                  have ho6 : Only wr w6 (fun b => (Value.slice a len c).ownBlock = some b) := (Only.of_below (F := fun b => (Value.slice a len c).ownBlock = some b) hal).trans (Only.of_grown (F := fun b => (Value.slice a len c).ownBlock = some b) hgrow6 (fun g e => e)) (fun _ _ h => h)
                  have HB6 := Lib.hid (hb1.out.trans (ho6.below (by omega) (fun g h => (hol g h).1)))
                  have HU6 := Lib.hid (hou.out.only ho6 (fun g e1 e2 => hap.out g e1 e2))
                  have HA6 : Hid (Apart (.slice (some ⟨W1.heap.size + 1, 0, none⟩) 0 0) (.slice a6 (len + 1) c6)) := Lib.hid (fun g e1 e2 => by
                    rcases hat6 with h | h
                    · exact hap.out g e1 (h ▸ e2)
                    · rw [h] at e2
                      injection e2 with e2
                      have := hou.out.lt g e1
                      try simp at e2
                      omega)
                  have hsz6 : W1.heap.size + 2 ≤ w6.heap.size := by have := ho6.size; omega
                  have HM6 : Hid (len + 1 = (na.1.map (fun o => AT (o * B.length + k)) ++ (nb.1.take (m + 1)).map (fun o => AT (i * B.length + o))).length) := Lib.hid (by rw [← hm6, upL_len])
                  clear hown6 hgrow6 hnil6 hat6 hal hol O6 hm6 ho6 ho hb1 hl hou hap hll hat hxc kf' kg' cc'
                  go_wp2
                  go_roundw
                  case rel => exact ⟨m + 1, len + 1, a6, c6, by omega, by go_num, rfl, HM6, HO6, HB6, HU6, HA6, hsz6⟩
                  case measure => first | (simp [intOf]; done) | (simp [intOf]; omega)
                · have hme : m = nb.1.length := by omega
                  subst hme
                  rw [List.take_length] at ho hl
                  obtain ⟨aL, ea⟩ : ∃ x, x = a := ⟨_, rfl⟩
                  obtain ⟨lenL, el⟩ : ∃ x, x = len := ⟨_, rfl⟩
                  obtain ⟨cL, ec⟩ : ∃ x, x = c := ⟨_, rfl⟩
                  subst ea
                  subst el
                  subst ec
                  have HLL := hl
                  go_wp2
                  go_loopw [11, 14] (fun v t wr => ∃ (m len : Nat) (a : Option Addr) (c : Nat), m ≤ na.2.length ∧ t = .int .i64 m ∧ v = .slice a len c ∧ Hid (len = ((na.2.take m).map (fun o => AT (o * B.length + k))).length) ∧ Hid (OwnI wr W1.heap.size (.slice a len c) (upL ((na.2.take m).map (fun o => AT (o * B.length + k))))) ∧ Hid (RowKit.Below W1.heap.size W1 wr) ∧
                    Hid (OwnI wr W1.heap.size (.slice aL lenL cL) (upL (na.1.map (fun o => AT (o * B.length + k)) ++ nb.1.map (fun o => AT (i * B.length + o))))) ∧ Hid (Apart (.slice aL lenL cL) (.slice a len c)) ∧ W1.heap.size + 2 ≤ wr.heap.size) (fun _ t _ => na.2.length - (intOf t).toNat)
                  case atStart => exact ⟨0, 0, some ⟨W1.heap.size + 1, 0, none⟩, 0, Nat.zero_le _, rfl, rfl, Lib.hid (by simp), hou, hb1, ho, Lib.hid hap.out.symm, hsz⟩
                  case round =>
                    obtain ⟨m, len, a, c, hm, rfl, rfl, hl, ho, hb1, hou, hap, hsz⟩ := hrel
                    have kf' := (bcell hb1.out _ _ blf).trans kf
                    have kg' := (bcell hb1.out _ _ blg).trans kg
                    have cc' := (bcell hb1.out _ _ bl2).trans c2
                    by_cases hlt3 : m < na.2.length
                    · obtain ⟨o, hox⟩ := lt_get hlt3
                      have hob := HlA.out o (Or.inr (List.mem_of_getElem? hox))
                      obtain ⟨bx, ox, hxa, _, hxc⟩ := ints_atP (J2.out.below hb1.out (Nat.le_trans hh hbs)) hox
                      subst hxa
                      have g5 : W1.heap.size ≤ wr.heap.size + 1 := by omega
                      obtain ⟨q, hq⟩ : ∃ q, o * B.length = q := ⟨_, rfl⟩
                      have hidx : q + k < p' := by
                        rw [hp.out, ← hq]
                        have h5 : (o + 1) * B.length ≤ i * B.length := Nat.mul_le_mul_right _ (by omega)
                        rw [Nat.add_mul] at h5
                        omega
                      have s0 : (0 : Int) ≤ (q : Int) + (k : Int) := by omega
                      have s1 : (q : Int) + (k : Int) < p' := by omega
                      have s2 : ((q : Int) + (k : Int)).toNat = q + k := by omega
                      have hat := HAT.out wr hb1.out (q + k) hidx
                      obtain ⟨z, hz⟩ : ∃ z, AT (q + k) = z := ⟨_, rfl⟩
                      rw [hz] at hat
                      have HZ : Hid ((fun o => AT (o * B.length + k)) o = z) := Lib.hid (by rw [← hz, ← hq])
                      have m0 : (0 : Int) ≤ m := by omega
                      have m1 : (m : Int) < na.2.length := by omega
                      have o0 : (0 : Int) ≤ o := by omega
                      have o1' : (o : Int) ≤ 120 := by omega
                      have hll : (upL ((na.2.take m).map (fun o => AT (o * B.length + k)))).length ≤ 60 := by rw [upL_len]; simp only [List.length_append, List.length_map, List.length_take]; omega
                      obtain ⟨PL, hPL⟩ : ∃ l, (na.2.take m).map (fun o => AT (o * B.length + k)) = l := ⟨_, rfl⟩
                      rw [hPL] at ho hll
                      have g3 : (upL PL).length + 1 ≤ maxLen := by unfold maxLen; omega
                      have g4 : ((upL PL).length + 1) * 8 ≤ 140737488355328 := by omega
                      have s3 : IntKind.i64.wrap ((q : Int) + (k : Int)) = (q : Int) + (k : Int) := IntWalk.i64_in _ (by omega)
                      have hwm : IntKind.i64.wrap ((o : Int) * (B.length : Int)) = (q : Int) := by rw [← hq]; exact mulS_cast (Nat.le_trans (Nat.mul_le_mul (show o ≤ 120 by omega) hB) (by omega))
                      have HPL := Lib.hid hPL
                      have HOX := Lib.hid hox
                      have HQ := Lib.hid hq
                      clear hox hq hz hPL
                      go_wp2_with (at_builtin; refine wpList_append_own_at _ rfl _ _ 34 rfl W1.heap.size 3 iI (.int .i64 0) 1 8 Try.underlying34 hiI hzI0 hzI1 hzI2 rfl (by decide) _ _ _ rfl (World.ownsRow.alloc ho.out _) ⟨wr.heap.size, 0, none⟩ 1 1 [.int .i64 (z : Int)] rfl rfl ?ec1 ?ec2 ?ec3 ?ec4 ?ec5 ?_)
                      try (case ec1 => exact World.news_of_block (heap_alloc_new _ _))
                      try (case ec2 => first | rfl | (intro u hu; simp at hu; subst hu; rfl))
                      try (case ec3 => exact g3)
                      try (case ec4 => exact g4)
                      try (case ec5 => simp only [World.size_alloc]; exact g5)
                      try (case ec5 => simpa using g5)
                      intro v6 w6 hown6 hgrow6 hnil6 hat6
                      clear hwm s3 s0 s1 s2
                      have hal : RowKit.Below wr.heap.size wr (wr.alloc (.cells #[.int .i64 (z : Int)] 3)) := (RowKit.Below.refl _ _).alloc (Nat.le_refl _) _
                      have hol := ho.out.lt
                      have O6 : OwnI w6 W1.heap.size v6 (upL ((na.2.take (m + 1)).map (fun o => AT (o * B.length + k)))) := by
                        have e : (na.2.take (m + 1)).map (fun o => AT (o * B.length + k)) = PL ++ [z] := by
                          rw [take_snoc' HOX.out, List.map_append, ← HPL.out]
                          rw [show [o].map (fun o => AT (o * B.length + k)) = [z] from by rw [List.map_singleton, HZ.out]]
                          try (first | rfl | rw [← List.append_assoc])
                        rw [e, upL_snoc]
                        unfold OwnI
                        rw [List.map_append, List.length_append]
                        exact hown6
                      obtain ⟨a6, c6, hv6⟩ := O6.form
                      have hm6 : (upL ((na.2.take (m + 1)).map (fun o => AT (o * B.length + k)))).length = len + 1 := by
                        rw [upL_len]
                        have := hl.out
                        simp only [List.length_append, List.length_map, List.length_take] at this ⊢
                        omega
                      rw [hm6] at hv6
                      subst hv6
                      have HO6 := Lib.hid O6
                      have ho6 : Only wr w6 (fun b => (Value.slice a len c).ownBlock = some b) := (Only.of_below (F := fun b => (Value.slice a len c).ownBlock = some b) hal).trans (Only.of_grown (F := fun b => (Value.slice a len c).ownBlock = some b) hgrow6 (fun g e => e)) (fun _ _ h => h)
                      have HB6 := Lib.hid (hb1.out.trans (ho6.below (by omega) (fun g h => (hol g h).1)))
                      have HU6 := Lib.hid (hou.out.only ho6 (fun g e1 e2 => hap.out g e1 e2))
                      have HA6 : Hid (Apart (.slice aL lenL cL) (.slice a6 (len + 1) c6)) := Lib.hid (fun g e1 e2 => by
                        rcases hat6 with h | h
                        · exact hap.out g e1 (h ▸ e2)
                        · rw [h] at e2
                          injection e2 with e2
                          have := hou.out.lt g e1
                          try simp at e2
                          omega)
                      have hsz6 : W1.heap.size + 2 ≤ w6.heap.size := by have := ho6.size; omega
                      have HM6 : Hid (len + 1 = ((na.2.take (m + 1)).map (fun o => AT (o * B.length + k))).length) := Lib.hid (by rw [← hm6, upL_len])
                      clear hown6 hgrow6 hnil6 hat6 hal hol O6 hm6 ho6 ho hb1 hl hou hap hll hat hxc kf' kg' cc'
                      go_wp2
                      go_roundw
                      case rel => exact ⟨m + 1, len + 1, a6, c6, by omega, by go_num, rfl, HM6, HO6, HB6, HU6, HA6, hsz6⟩
                      case measure => first | (simp [intOf]; done) | (simp [intOf]; omega)
                    · have hme : m = na.2.length := by omega
                      subst hme
                      rw [List.take_length] at ho hl
                      go_wp2
                      go_loopw [11, 15] (fun v t wr => ∃ (m len : Nat) (a : Option Addr) (c : Nat), m ≤ nb.2.length ∧ t = .int .i64 m ∧ v = .slice a len c ∧ Hid (len = (na.2.map (fun o => AT (o * B.length + k)) ++ (nb.2.take m).map (fun o => AT (i * B.length + o))).length) ∧ Hid (OwnI wr W1.heap.size (.slice a len c) (upL (na.2.map (fun o => AT (o * B.length + k)) ++ (nb.2.take m).map (fun o => AT (i * B.length + o))))) ∧ Hid (RowKit.Below W1.heap.size W1 wr) ∧
                        Hid (OwnI wr W1.heap.size (.slice aL lenL cL) (upL (na.1.map (fun o => AT (o * B.length + k)) ++ nb.1.map (fun o => AT (i * B.length + o))))) ∧ Hid (Apart (.slice aL lenL cL) (.slice a len c)) ∧ W1.heap.size + 2 ≤ wr.heap.size) (fun _ t _ => nb.2.length - (intOf t).toNat)
                      case atStart => exact ⟨0, len, a, c, Nat.zero_le _, rfl, rfl, Lib.hid (by rw [List.take_zero, List.map_nil, List.append_nil]; exact hl.out), Lib.hid (by rw [List.take_zero, List.map_nil, List.append_nil]; exact ho.out), hb1, hou, hap, hsz⟩
                      case round =>
                        obtain ⟨m, len, a, c, hm, rfl, rfl, hl, ho, hb1, hou, hap, hsz⟩ := hrel
                        have kf' := (bcell hb1.out _ _ blf).trans kf
                        have kg' := (bcell hb1.out _ _ blg).trans kg
                        have cc' := (bcell hb1.out _ _ bl4).trans c4
                        by_cases hlt3 : m < nb.2.length
                        · obtain ⟨o, hox⟩ := lt_get hlt3
                          have hob := HlB.out o (Or.inr (List.mem_of_getElem? hox))
                          obtain ⟨bx, ox, hxa, _, hxc⟩ := ints_atP (J4.out.below hb1.out (Nat.le_trans hh' hbs)) hox
                          subst hxa
                          have g5 : W1.heap.size ≤ wr.heap.size + 1 := by omega
                          obtain ⟨q, hq⟩ : ∃ q, i * B.length = q := ⟨_, rfl⟩
                          have hidx : q + o < p' := by
                            rw [hp.out, ← hq]
                            omega
                          have s0 : (0 : Int) ≤ (q : Int) + (o : Int) := by omega
                          have s1 : (q : Int) + (o : Int) < p' := by omega
                          have s2 : ((q : Int) + (o : Int)).toNat = q + o := by omega
                          have hat := HAT.out wr hb1.out (q + o) hidx
                          obtain ⟨z, hz⟩ : ∃ z, AT (q + o) = z := ⟨_, rfl⟩
                          rw [hz] at hat
                          have HZ : Hid ((fun o => AT (i * B.length + o)) o = z) := Lib.hid (by rw [← hz, ← hq])
                          have m0 : (0 : Int) ≤ m := by omega
                          have m1 : (m : Int) < nb.2.length := by omega
                          have o0 : (0 : Int) ≤ o := by omega
                          have o1' : (o : Int) ≤ 120 := by omega
                          have hll : (upL (na.2.map (fun o => AT (o * B.length + k)) ++ (nb.2.take m).map (fun o => AT (i * B.length + o)))).length ≤ 60 := by rw [upL_len]; simp only [List.length_append, List.length_map, List.length_take]; omega
                          obtain ⟨PL, hPL⟩ : ∃ l, na.2.map (fun o => AT (o * B.length + k)) ++ (nb.2.take m).map (fun o => AT (i * B.length + o)) = l := ⟨_, rfl⟩
                          rw [hPL] at ho hll
                          have g3 : (upL PL).length + 1 ≤ maxLen := by unfold maxLen; omega
                          have g4 : ((upL PL).length + 1) * 8 ≤ 140737488355328 := by omega
                          have s3 : IntKind.i64.wrap ((q : Int) + (o : Int)) = (q : Int) + (o : Int) := IntWalk.i64_in _ (by omega)
                          have hwm : IntKind.i64.wrap ((i : Int) * (B.length : Int)) = (q : Int) := by rw [← hq]; exact mulS_cast (Nat.le_trans (Nat.mul_le_mul (show i ≤ 120 by omega) hB) (by omega))
                          have HPL := Lib.hid hPL
                          have HOX := Lib.hid hox
                          have HQ := Lib.hid hq
                          clear hox hq hz hPL
                          go_wp2_with (at_builtin; refine wpList_append_own_at _ rfl _ _ 34 rfl W1.heap.size 3 iI (.int .i64 0) 1 8 Try.underlying34 hiI hzI0 hzI1 hzI2 rfl (by decide) _ _ _ rfl (World.ownsRow.alloc ho.out _) ⟨wr.heap.size, 0, none⟩ 1 1 [.int .i64 (z : Int)] rfl rfl ?ed1 ?ed2 ?ed3 ?ed4 ?ed5 ?_)
                          try (case ed1 => exact World.news_of_block (heap_alloc_new _ _))
                          try (case ed2 => first | rfl | (intro u hu; simp at hu; subst hu; rfl))
                          try (case ed3 => exact g3)
                          try (case ed4 => exact g4)
                          try (case ed5 => simp only [World.size_alloc]; exact g5)
                          try (case ed5 => simpa using g5)
                          intro v6 w6 hown6 hgrow6 hnil6 hat6
                          clear hwm s3 s0 s1 s2
                          have hal : RowKit.Below wr.heap.size wr (wr.alloc (.cells #[.int .i64 (z : Int)] 3)) := (RowKit.Below.refl _ _).alloc (Nat.le_refl _) _
                          have hol := ho.out.lt
                          have O6 : OwnI w6 W1.heap.size v6 (upL (na.2.map (fun o => AT (o * B.length + k)) ++ (nb.2.take (m + 1)).map (fun o => AT (i * B.length + o)))) := by
                            have e : na.2.map (fun o => AT (o * B.length + k)) ++ (nb.2.take (m + 1)).map (fun o => AT (i * B.length + o)) = PL ++ [z] := by
                              rw [take_snoc' HOX.out, List.map_append, ← HPL.out]
                              rw [show [o].map (fun o => AT (i * B.length + o)) = [z] from by rw [List.map_singleton, HZ.out]]
                              try (first | rfl | rw [← List.append_assoc])
                            rw [e, upL_snoc]
                            unfold OwnI
                            rw [List.map_append, List.length_append]
                            exact hown6
                          obtain ⟨a6, c6, hv6⟩ := O6.form
                          have hm6 : (upL (na.2.map (fun o => AT (o * B.length + k)) ++ (nb.2.take (m + 1)).map (fun o => AT (i * B.length + o)))).length = len + 1 := by
                            rw [upL_len]
                            have := hl.out
                            simp only [List.length_append, List.length_map, List.length_take] at this ⊢
                            omega
                          rw [hm6] at hv6
                          subst hv6
                          have HO6 := Lib.hid O6
                          have ho6 : Only wr w6 (fun b => (Value.slice a len c).ownBlock = some b) := (Only.of_below (F := fun b => (Value.slice a len c).ownBlock = some b) hal).trans (Only.of_grown (F := fun b => (Value.slice a len c).ownBlock = some b) hgrow6 (fun g e => e)) (fun _ _ h => h)
                          have HB6 := Lib.hid (hb1.out.trans (ho6.below (by omega) (fun g h => (hol g h).1)))
                          have HU6 := Lib.hid (hou.out.only ho6 (fun g e1 e2 => hap.out g e1 e2))
                          have HA6 : Hid (Apart (.slice aL lenL cL) (.slice a6 (len + 1) c6)) := Lib.hid (fun g e1 e2 => by
                            rcases hat6 with h | h
                            · exact hap.out g e1 (h ▸ e2)
                            · rw [h] at e2
                              injection e2 with e2
                              have := hou.out.lt g e1
                              try simp at e2
                              omega)
                          have hsz6 : W1.heap.size + 2 ≤ w6.heap.size := by have := ho6.size; omega
                          have HM6 : Hid (len + 1 = (na.2.map (fun o => AT (o * B.length + k)) ++ (nb.2.take (m + 1)).map (fun o => AT (i * B.length + o))).length) := Lib.hid (by rw [← hm6, upL_len])
                          clear hown6 hgrow6 hnil6 hat6 hal hol O6 hm6 ho6 ho hb1 hl hou hap hll hat hxc kf' kg' cc'
                          go_wp2
                          go_roundw
                          case rel => exact ⟨m + 1, len + 1, a6, c6, by omega, by go_num, rfl, HM6, HO6, HB6, HU6, HA6, hsz6⟩
                          case measure => first | (simp [intOf]; done) | (simp [intOf]; omega)
                        · have hme : m = nb.2.length := by omega
                          subst hme
                          rw [List.take_length] at ho hl
                          have hsm := Hsm.out
                          have C3 := Lib.hid (hK.out.put_calls HTU.out (by rw [HTL.out]; omega) wr hb1.out (.slice aL lenL cL) (.slice a len c) (sumLP B.length i k na.1 nb.1) (sumLP B.length i k na.2 nb.2) W1.heap.size wr.heap.size W1.heap.size wr.heap.size (Nat.le_refl _) (Nat.le_refl _) (by rw [HAE.out, sumL_map]; exact hou.out.ints) (by rw [HAE.out, sumL_map]; exact ho.out.ints) (fun x hx => by rw [HTL.out]; exact US.out p' _ HND.out x (Or.inl hx)) (fun x hx => by rw [HTL.out]; exact US.out p' _ HND.out x (Or.inr hx)) (by omega) (by omega))
                          obtain ⟨su, hsu⟩ : ∃ su, seatAt P (sumLP B.length i k na.1 nb.1) (sumLP B.length i k na.2 nb.2) = su := ⟨_, rfl⟩
                          rw [hsu] at C3
                          have HSU := Lib.hid hsu
                          have OWNP := Lib.hid (own_only hK.out.own (Only.of_below (F := fun _ => False) hb1.out) (fun _ _ => id))
                          rw [HTL.out] at OWNP
                          have hs1 := hb1.out.size
                          clear hsu hsm
                          go_wp2_with (first
                            | (go_at_call 88; refine C3.out.mono ?_; rintro e w6 ⟨rfl, vn', vb', vs', hK6, ho6, hf6⟩; have OW6 := own_only OWNP.out ho6 (fun g e => by injection e with e; subst e; exact HNF.out))
                            | (at_builtin; refine wpList_append_own_at _ rfl _ _ 34 rfl (w.heap.size + 3) 3 iI (.int .i64 0) 1 8 Try.underlying34 hiI hzI0 hzI1 hzI2 rfl (by decide) _ _ _ rfl (World.ownsRow.alloc OW6 _) ⟨w6.heap.size, 0, none⟩ 1 1 [.int .i64 (su : Int)] rfl rfl ?ee1 ?ee2 ?ee3 ?ee4 ?ee5 ?_))
                          try (case ee1 => exact World.news_of_block (heap_alloc_new _ _))
                          try (case ee2 => first | rfl | (intro u hu; simp at hu; subst hu; rfl))
                          try (case ee3 => unfold maxLen; omega)
                          try (case ee4 => omega)
                          try (case ee5 => simp; have := ho6.size; omega)
                          intro v7 w7 hown7 hgrow7 hnil7 hat7
                          obtain ⟨g7, c7, rfl, HK7, HO7, HB7⟩ := hK.out.next hb1.out hK6 ho6 hf6 (by rw [HTL.out, HSU.out]; exact hown7) (by rw [HTL.out, HSU.out]; exact hgrow7) (by rw [HTL.out, HSU.out]; simpa using hat7)
                          rw [HTL.out]
                          have K7 : Hid (BkAt (w.heap.size + 3) w7 ((sumN A B).take (p' + 1)) g7 c7 vn' vb' vs') := Lib.hid (by rw [HTS.out]; exact HK7.out)
                          have B7 : Hid (RowKit.Below w.heap.size w w7) := Lib.hid (hbw.out.trans (HB7.out.mono (by omega)))
                          have hfar : ∀ q, q < w.heap.size + 3 → ¬ (Foot (w.heap.size + 3) vn vb q ∨ q = ga) := fun q hq h => by
                            rcases h with h | h
                            · have := (hK.out.bk.lt _ h).1; omega
                            · omega
                          have X7 : Hid (BoxAt w7 (w.heap.size + 2) (.slice none 0 0)) := Lib.hid (hx.out.only HO7.out (hfar _ (by omega)))
                          have kf7 := (HO7.out.cell (o := 0) blf (hfar _ (by omega))).trans kf
                          have kg7 := (HO7.out.cell (o := 0) blg (hfar _ (by omega))).trans kg
                          have HP7 : Hid (p' + 1 = i * B.length + (k + 1)) := Lib.hid (by have := hp.out; omega)
                          clear hown7 hgrow7 hnil7 hat7 hK6 ho6 hf6 OW6 HK7 HO7 HB7 hfar C3 hou ho hb1 hl hap hbw hx hK c1 c2 c3 c4 kf kg
                          go_wp2
                          go_roundw
                          case rel => exact ⟨k + 1, p' + 1, g7, c7, vn', vb', vs', by omega, by go_num, rfl, HP7, K7, B7, X7, kf7, kg7⟩
                          case measure => first | (simp [intOf]; done) | (simp [intOf]; omega)
        · have hke : k = B.length := by omega
          have HP2 : Hid (p' = (i + 1) * B.length) := Lib.hid (by rw [hp.out, hke, Nat.add_mul, Nat.one_mul])
          have hpl : p' ≤ 120 * 120 := by
            have h2 : (i + 1) * B.length ≤ A.length * B.length := Nat.mul_le_mul_right _ (by omega)
            have := HP2.out
            omega
          clear hp
          go_wp2
          go_roundw
          case rel => exact ⟨i + 1, p', ga, ca', vn, vb, vs, by omega, by go_num, rfl, HP2, hK, hbw, hx, kf, kg⟩
          case measure => first | (simp [intOf]; done) | (simp [intOf]; omega)
    · have hie : i = A.length := by omega
      have hpe : p = A.length * B.length := by rw [hp.out, hie]
      rw [show (sumN A B).take p = sumN A B from List.take_of_length_le (by rw [SL.out]; omega)] at hK
      have hpos : 0 < A.length * B.length := Nat.mul_pos pA pB
      obtain ⟨z, hz⟩ := lt_get (l := (addF [] (sumN A B)).2) (i := p - 1) (by rw [at_len, SL.out]; omega)
      have HZ : Hid ((addF [] (sumN A B)).2.getD ((sumN A B).length - 1) 0 = z) := Lib.hid (by rw [SL.out, ← hpe, List.getD_eq_getElem?_getD, hz]; rfl)
      have hbk := (addF_added [] book_nil (sumN A B) US.out).book
      have hzl : z < (addF [] (sumN A B)).1.length := by
        rw [← HZ.out]
        exact at_lt' _ US.out _ (by rw [SL.out]; omega)
      have hal := (addF_len [] (sumN A B)).2
      have hown := hK.out.own
      rw [SL.out] at hown hal
      rw [← hpe] at hown
      have hcz : wr.cell? ⟨ga, p - 1, none⟩ = some (.int .i64 (z : Int)) := by
        rw [World.ownsRow.cellAt hown (p - 1) (by omega), List.getElem?_map, hz]
        rfl
      have CF := Lib.hid (form_calls (w.heap.size + 3) (w.heap.size + 3) (addF [] (sumN A B)).1 vn vb vs (fun g => g = ga) z wr hK.out.bk hbk hzl (by simp at hal; omega))
      have HFI := Lib.hid (form_is (sumN A B))
      rw [HZ.out] at HFI
      rw [HFI.out] at CF
      obtain ⟨G, hG⟩ : ∃ G, (formM (sumN A B)).map upN = G := ⟨_, rfl⟩
      rw [hG] at CF
      have HGG := Lib.hid hG
      have hn1 : IntKind.i64.wrap ((p : Int) - 1) = (p : Int) - 1 := IntWalk.i64_in _ (by omega)
      have hn2 : (0 : Int) ≤ (p : Int) - 1 := by omega
      have hn3 : (p : Int) - 1 < p := by omega
      have hn4 : ((p : Int) - 1).toNat = p - 1 := by omega
      have hbs := hbw.out.size
      have hlt1 := block_of_cell hx.out.1
      have HPE := Lib.hid hpe
      clear hz hzl hbk hal hown hK hG hpe hp hpos
      go_wp2_with fail
      refine CF.out.mono ?_
      rintro e w5 ⟨v, rfl, hn5, hb5⟩
      obtain ⟨d5, z5⟩ := hx.out.below hb5
      have HB5 : Hid (RowKit.Below w.heap.size w (w5.setCell ⟨w.heap.size + 2, 0, none⟩ v)) := Lib.hid ((hbw.out.trans (hb5.mono hbs)).setCell (by show w.heap.size ≤ w.heap.size + 2; omega) _)
      have HN : Hid (NodesZ (w5.setCell ⟨w.heap.size + 2, 0, none⟩ v) w.heap.size (w5.setCell ⟨w.heap.size + 2, 0, none⟩ v).heap.size v G) := Lib.hid ((NodesZ.keep hn5 (fun b o h1 h2 => World.cell?_setCell_other _ _ _ _ (fun e => by injection e with e _ _; omega))).wide hbs (by simp))
      have hcr := World.cell?_setCell_same w5 ⟨w.heap.size + 2, 0, none⟩ v d5
      obtain ⟨av, cv, rfl, _⟩ := (show ∃ a c, v = .slice a G.length c ∧ True from by obtain ⟨a, c, e, _⟩ := hn5; exact ⟨a, c, e, trivial⟩)
      clear hn5 hb5 CF hx hbw
      go_wp2_with fail
      refine bodyPost_ret (v := .agg #[.slice av G.length cv]) (by simp [results, Try.results70, go_sem, hcr]) rfl ?_
      rw [HGG.out]
      exact ⟨_, rfl, HN.out, HB5.out⟩
end
section
open Go.RowKit
set_option linter.unusedVariables false
set_option linter.unusedSimpArgs false
set_option maxRecDepth 100000 in
set_option maxHeartbeats 2000000 in
theorem sumS_calls (va vb : Value) (f g h : List Nz) (ok : Bool) (hok : Hid (sumOk f g = ok)) (hv : Hid (sumV f g = h)) (w : World) (lo hi lo' hi' : Nat) (hh : hi ≤ w.heap.size) (hh' : hi' ≤ w.heap.size) (hva : NodesZ w lo hi va f) (hvb : NodesZ w lo' hi' vb g) :
    Calls Try.prog 37 #[.agg #[va], .agg #[vb]] w fun e w' => ∃ a c, e = .returned (.tuple #[.agg #[.slice a h.length c], .bool ok]) ∧ NodesZ w' w.heap.size w'.heap.size (.slice a h.length c) h ∧ Below w.heap.size w w' := by
  have HB0 := Lib.hid fun o o' o'' => show Below w.heap.size w (((w.alloc o).alloc o').alloc o'') from (((Below.refl _ _).alloc (Nat.le_refl _) _).alloc (by simp) _).alloc (by simp; omega) _
  obtain ⟨r, hr⟩ : ∃ r, pairB f g = r := ⟨_, rfl⟩
  have CG := Lib.hid fun (W : World) (hW : Below w.heap.size w W) => l5Pair_calls va vb f g r (Lib.hid hr) W lo hi lo' hi' (Nat.le_trans hh hW.size) (Nat.le_trans hh' hW.size) (hva.below hW hh) (hvb.below hW hh')
  have HVA := Lib.hid fun (W : World) (hW : Below w.heap.size w W) => hva.below hW hh
  have HVB := Lib.hid fun (W : World) (hW : Below w.heap.size w W) => hvb.below hW hh'
  obtain ⟨aa, ca, rfl⟩ := slice_form hva
  obtain ⟨ab, cb, rfl⟩ := slice_form hvb
  clear hva hvb
  go_enter Try.func37, Try.ntmps37
  go_wp2_with fail
  refine (CG.out _ (HB0.out _ _ _)).mono ?_
  rintro e w4 ⟨rfl, hb4⟩
  have k1 : w4.cell? ⟨w.heap.size, 0, none⟩ = some (.slice aa f.length ca) := (bcell hb4 _ _ (by simp; omega)).trans (by go_simp)
  have k2 : w4.cell? ⟨w.heap.size + 1, 0, none⟩ = some (.slice ab g.length cb) := (bcell hb4 _ _ (by first | (simp; done) | (simp; omega))).trans (by go_simp)
  obtain ⟨d0, z0⟩ : BoxAt w4 (w.heap.size + 1 + 1) (.slice none 0 0) := BoxAt.below ⟨by go_simp, by go_simp⟩ hb4
  have HB4 := Lib.hid (Below.trans (HB0.out _ _ _) (hb4.mono (by simp; omega)))
  have hlt := block_of_cell d0
  clear hb4 CG
  cases r with
  | false =>
    obtain rfl : h = [] := by rw [← hv.out, sumV_no hr]
    obtain rfl : ok = false := by rw [← hok.out, sumOk_no hr]
    have B4 := Lib.hid (HB4.out.setCell (p := ⟨w.heap.size + 1 + 1, 0, none⟩) (by show w.heap.size ≤ w.heap.size + 1 + 1; omega) (.slice none 0 0))
    have hcr := World.cell?_setCell_same w4 ⟨w.heap.size + 1 + 1, 0, none⟩ (.slice none 0 0) d0
    go_wp2_with fail
    exact bodyPost_ret (v := .tuple #[.agg #[.slice none 0 0], .bool false]) (by simp [results, Try.results37, go_sem, hcr]) rfl ⟨none, 0, rfl, (OwnF.nil _ _).nodesZ.wide (Nat.le_refl _) (Nat.le_refl _), B4.out⟩
  | true =>
    obtain ⟨hp1, hp2, hp3⟩ := (pairB_iff f g).1 hr
    obtain ⟨eA, uA, sA, pA, lA, mA⟩ := good_parts hp1
    obtain ⟨eB, uB, sB, pB, lB, mB⟩ := good_parts hp2
    have nA : (f.map downN).length = f.length := by simp
    have nB : (g.map downN).length = g.length := by simp
    have CN := Lib.hid fun (W : World) (hW : Below w.heap.size w W) => l5Sum_calls (f.map downN) (g.map downN) aa ab ca cb W lo hi lo' hi' (Nat.le_trans hh hW.size) (Nat.le_trans hh' hW.size) (by rw [nA, eA]; exact HVA.out W hW) (by rw [nB, eB]; exact HVB.out W hW) (by omega) (by omega) (by omega) (by omega) uA uB mA mB
    obtain ⟨G, hG⟩ : ∃ G, (formM (sumN (f.map downN) (g.map downN))).map upN = G := ⟨_, rfl⟩
    have HOK : Hid (fitsB G = ok) := Lib.hid (by rw [← hG, ← fitsN_B, ← sumOk_yes hr]; exact hok.out)
    have HH : Hid (h = if ok then G else []) := Lib.hid (by
      rw [← hv.out, sumV_yes hr]
      have := sumOk_yes hr
      rw [hok.out] at this
      cases ok with
      | true => rw [outV_yes this.symm, hG]; rfl
      | false => rw [outV_no this.symm]; rfl)
    rw [nA, nB, hG] at CN
    have CF := Lib.hid fun (W : World) (v : Value) (lo hi : Nat) (hhi : hi ≤ W.heap.size) (hz : NodesZ W lo hi v G) => l3If_calls v G ok HOK W lo hi hhi hz
    clear eA uA sA eB uB sB mA mB hok hv hr hp1 hp2 nA nB hG
    go_wp2_with fail
    refine (CN.out _ HB4.out).mono ?_
    rintro e w5 ⟨v5, rfl, hz5, hb5⟩
    have C2 := Lib.hid (CF.out w5 v5 _ _ (Nat.le_refl _) hz5)
    have HB5 := Lib.hid (HB4.out.trans (hb5.mono HB4.out.size))
    have hx5 : BoxAt w5 (w.heap.size + 1 + 1) (.slice none 0 0) := BoxAt.below ⟨d0, z0⟩ hb5
    have hs5 := HB5.out.size
    have hl5 := hb5.size
    have HZ5 := Lib.hid hz5
    clear hz5 hb5 CN CF
    go_wp2_with fail
    refine C2.out.mono ?_
    rintro e w6 ⟨rfl, hb6⟩
    obtain ⟨d6, z6⟩ : BoxAt w6 (w.heap.size + 1 + 1) (.slice none 0 0) := BoxAt.below hx5 hb6
    obtain ⟨u, hu⟩ : ∃ u, (if ok = true then v5 else Value.slice none 0 0) = u := ⟨_, rfl⟩
    have HO : Hid (NodesZ (w6.setCell ⟨w.heap.size + 1 + 1, 0, none⟩ u) w.heap.size (w6.setCell ⟨w.heap.size + 1 + 1, 0, none⟩ u).heap.size u h) := Lib.hid (by
      rw [HH.out, ← hu]
      cases ok with
      | false => exact (OwnF.nil _ _).nodesZ.wide (Nat.le_refl _) (Nat.le_refl _)
      | true => exact ((HZ5.out.below hb6 (Nat.le_refl _)).keep (fun b o h1 h2 => World.cell?_setCell_other _ _ _ _ (fun e => by injection e with e _ _; omega))).wide (by omega) (by simp; exact hb6.size))
    have HB6 : Hid (Below w.heap.size w (w6.setCell ⟨w.heap.size + 1 + 1, 0, none⟩ u)) := Lib.hid ((HB5.out.trans (hb6.mono hs5)).setCell (by show w.heap.size ≤ w.heap.size + 1 + 1; omega) _)
    obtain ⟨au, cu, rfl⟩ := slice_form HO.out
    rw [hu]
    have hcr := World.cell?_setCell_same w6 ⟨w.heap.size + 1 + 1, 0, none⟩ (.slice au h.length cu) d6
    clear hb6 hx5 C2 hu
    go_wp2_with fail
    exact bodyPost_ret (v := .tuple #[.agg #[.slice au h.length cu], .bool ok]) (by simp [results, Try.results37, go_sem, hcr]) rfl ⟨au, cu, rfl, HO.out, HB6.out⟩
end
end

section
set_option linter.unusedVariables false
set_option linter.unusedSimpArgs false
open Go.RowKit
theorem all_take_snoc {Fs : List (List Nz)} {k : Nat} {f : List Nz} (h : ∀ g ∈ Fs.take k, goodB g = true) (hf : Fs[k]? = some f) (hg : goodB f = true) : ∀ g ∈ Fs.take (k + 1), goodB g = true := fun g hm => by
  rw [List.take_add_one, hf] at hm
  rcases List.mem_append.1 hm with h1 | h1
  · exact h g h1
  · simp at h1; rw [h1]; exact hg
set_option maxRecDepth 100000 in
set_option maxHeartbeats 1000000 in
theorem l3All_calls (v : Value) (Fs : List (List Nz)) (m : Nat) (hm : m ≤ 1000) (r : Bool) (hr : Hid (alB m Fs = r)) (w : World) (lo hi : Nat) (hh : hi ≤ w.heap.size) (hv : FormsZ w lo hi v Fs) :
    Calls Try.prog 35 #[v, .int .i64 m] w fun e w' => e = .returned (.bool r) ∧ Below w.heap.size w w' := by
  have HV := Lib.hid hv
  obtain ⟨ao, c, rfl, hcap, _⟩ := hv
  go_enter Try.func35, Try.ntmps35
  go_wp2
  go_loopw [5] (fun i wr => ∃ k : Nat, k ≤ Fs.length ∧ k ≤ m + 1 ∧ i = .int .i64 k ∧ Hid (∀ g ∈ Fs.take k, goodB g = true) ∧ Hid (Below w.heap.size w wr)) (fun i _ => Fs.length - (intOf i).toNat)
  case atStart => exact ⟨0, Nat.zero_le _, by omega, rfl, Lib.hid (fun f hf => by simp at hf), Lib.hid (Below.refl _ _)⟩
  case round =>
    obtain ⟨k, hk, hkm, rfl, hgd, hb⟩ := hrel
    by_cases hlt : k < Fs.length
    · by_cases hle : k ≤ m
      · obtain ⟨f, hf⟩ := lt_get hlt
        obtain ⟨ao1, c1, e1, _, hn⟩ := HV.out.below hb.out hh
        obtain ⟨b, off, vf, rfl, _, hbh, p1, i1⟩ := hn k f hf
        obtain ⟨q1, q2, q3⟩ := slice_inj e1
        subst q1 q3
        clear q2 hn e1
        obtain ⟨rf, hrf⟩ : ∃ r, goodB f = r := ⟨_, rfl⟩
        have C := Lib.hid (goodS_res vf f rf (Lib.hid hrf) wr lo hi (by have := hb.out.size; omega) i1)
        have HF := Lib.hid hf
        have HRF := Lib.hid hrf
        have hbs := hb.out.size
        obtain ⟨af, nf, cf, rfl⟩ : ∃ a n c, vf = .slice a n c := by obtain ⟨a, c, e, _⟩ := i1; exact ⟨a, _, c, e⟩
        have k0 : (0 : Int) ≤ k := by omega
        have k1 : (k : Int) < Fs.length := by omega
        have k2 : (k : Int) ≤ m := by omega
        clear hf hrf i1
        go_wp2_with fail
        refine C.out.mono ?_
        rintro e w1 ⟨rfl, hb1⟩
        have HB1 := Lib.hid (hb.out.trans (hb1.mono hbs))
        clear hb1 C hb p1
        cases rf with
        | false =>
          obtain rfl : r = false := by
            rw [← hr.out]
            unfold alB
            rw [Bool.and_eq_false_iff]
            right
            rw [List.all_eq_false]
            exact ⟨f, List.mem_of_getElem? HF.out, by rw [HRF.out]; simp⟩
          clear hr
          go_wp2_with fail
          go_ret
          exact ⟨rfl, HB1.out⟩
        | true =>
          have HG2 := Lib.hid (all_take_snoc hgd.out HF.out HRF.out)
          clear hgd
          go_wp2_with fail
          go_roundw
          case rel => exact ⟨k + 1, by omega, by omega, by go_num, HG2, HB1⟩
          case measure => first | (simp [intOf]; done) | (simp [intOf]; omega)
      · obtain rfl : r = false := by
          rw [← hr.out]
          unfold alB
          rw [Bool.and_eq_false_iff]
          left
          rw [decide_eq_false_iff_not]
          omega
        have k1 : (k : Int) < Fs.length := by omega
        have k2 : ¬ (k : Int) ≤ m := by omega
        have k3 : ¬ (Fs.length : Int) ≤ m := by omega
        clear hr
        go_wp2
        go_ret
        exact ⟨by first | rfl | exact ret_bool (decide_eq_false k3) | exact ret_bool (by simp; omega), hb.out⟩
    · have hke : k = Fs.length := by omega
      subst hke
      have HRR : Hid (decide (Fs.length ≤ m) = r) := Lib.hid (by
        rw [← hr.out]
        unfold alB
        have h := hgd.out
        rw [List.take_length] at h
        rw [List.all_eq_true.2 h, Bool.and_true])
      clear hr hgd
      go_wp2
      all_goals
        go_ret
        exact ⟨by first | exact ret_bool HRR.out | exact ret_bool (by rw [← HRR.out]; simp) | exact ret_bool (by rw [← HRR.out]; simp; omega), hb.out⟩
end

section
set_option linter.unusedVariables false
set_option linter.unusedSimpArgs false
/-- nodes of which each is born on the day of its number -/
def Line (P : List Nd) : Prop := ∀ (k : Nat) (nd : Nd), P[k]? = some nd → lastOf (fun x => x) nd = k
theorem line_born {P : List Nd} (h : Line P) (hu : Under P) : ∀ k, k < P.length → bOf P k = k := by
  have hb := births_bOf P hu
  intro k
  induction k using Nat.strongRecOn with
  | ind k ih =>
    intro hk
    obtain ⟨nd, hnd⟩ := lt_get hk
    rw [hb k nd hnd, lastOf_congr (bOf P) (fun x => x) nd (fun x hx => by
      have := hu k nd hnd x hx
      exact ih x this (by omega))]
    exact h k nd hnd
theorem line_rising {P : List Nd} (h : Line P) (hu : Under P) : RisingBy P (bOf P) := fun k x y hx hy => by
  left
  have h1 := get_lt hy
  rw [line_born h hu k (by omega), line_born h hu (k + 1) h1]
  omega
theorem line_snoc {P : List Nd} {nd : Nd} (h : Line P) (hn : lastOf (fun x => x) nd = P.length) : Line (P ++ [nd]) := fun k x hk => by
  rcases Nat.lt_or_ge k P.length with hlt | hge
  · rw [List.getElem?_append_left hlt] at hk
    exact h k x hk
  · rw [List.getElem?_append_right hge] at hk
    have h0 := get_lt hk
    simp at h0
    rw [show k - P.length = 0 from by omega] at hk
    simp only [List.getElem?_cons_zero, Option.some.injEq] at hk
    subst hk
    rw [hn]
    omega
theorem struct_snoc {P : List Nd} {nd : Nd} (h : Struct P) (h1 : nd.1.Pairwise (· < ·)) (h2 : nd.2.Pairwise (· < ·)) (h3 : ∀ x, x ∈ nd.1 ∨ x ∈ nd.2 → x < P.length) : Struct (P ++ [nd]) := fun k x hk => by
  rcases Nat.lt_or_ge k P.length with hlt | hge
  · rw [List.getElem?_append_left hlt] at hk
    exact h k x hk
  · rw [List.getElem?_append_right hge] at hk
    have h0 := get_lt hk
    simp at h0
    rw [show k - P.length = 0 from by omega] at hk
    simp only [List.getElem?_cons_zero, Option.some.injEq] at hk
    subst hk
    exact ⟨h1, h2, fun x hx => by have := h3 x hx; omega⟩
theorem used_snoc {P : List Nd} {nd : Nd} (h : Used P) (hn : 0 < P.length → P.length - 1 ∈ nd.1 ∨ P.length - 1 ∈ nd.2) : Used (P ++ [nd]) := fun i hi => by
  rw [List.length_append, List.length_singleton] at hi
  rcases Nat.lt_or_ge (i + 1) P.length with hlt | hge
  · obtain ⟨k, x, hk, hx⟩ := h i hlt
    exact ⟨k, x, by rw [List.getElem?_append_left (get_lt hk)]; exact hk, hx⟩
  · refine ⟨P.length, nd, by simp, ?_⟩
    rw [show i = P.length - 1 from by omega]
    exact hn (by omega)
/-- what is asked of nodes that are a good form, each born on its own day -/
structure LineF (P : List Nd) : Prop where
  line : Line P
  struct : Struct P
  used : Used P
  small : ∀ nd ∈ P, nd.1.length ≤ 24 ∧ nd.2.length ≤ 24
  first : P[0]? = some ([], [])
theorem LineF.pos {P : List Nd} (h : LineF P) : 0 < P.length := get_lt h.first
theorem LineF.snoc {P : List Nd} {nd : Nd} (h : LineF P) (hl : lastOf (fun x => x) nd = P.length) (h1 : nd.1.Pairwise (· < ·)) (h2 : nd.2.Pairwise (· < ·)) (h3 : ∀ x, x ∈ nd.1 ∨ x ∈ nd.2 → x < P.length) (h4 : P.length - 1 ∈ nd.1 ∨ P.length - 1 ∈ nd.2) (h5 : nd.1.length ≤ 24 ∧ nd.2.length ≤ 24) : LineF (P ++ [nd]) :=
  ⟨line_snoc h.line hl, struct_snoc h.struct h1 h2 h3, used_snoc h.used (fun _ => h4), fun x hx => by
    rcases List.mem_append.1 hx with hx | hx
    · exact h.small x hx
    · rw [List.mem_singleton] at hx; subst hx; exact h5, by rw [List.getElem?_append_left h.pos]; exact h.first⟩
/-- nodes that each fall to a node of nodes in order -/
theorem canon_via {P out : List Nd} {pl : Nat → Nat} (hu : Under P) (hs : Struct out) (hr : RisingBy out (bOf out)) (hn : ∀ (k : Nat) (nd : Nd), P[k]? = some nd → out[pl k]? = some (movd pl nd)) (hsur : ∀ i, i < out.length → ∃ k, k < P.length ∧ pl k = i) : Canon P (bOf P) (fun _ => True) out pl := by
  have hbP := births_bOf P hu
  have hbo := births_bOf out hs.under
  have hb : ∀ k, k < P.length → bOf out (pl k) = bOf P k := by
    intro k
    induction k using Nat.strongRecOn with
    | ind k ih =>
      intro hk
      obtain ⟨nd, hnd⟩ := lt_get hk
      rw [hbP k nd hnd, hbo (pl k) _ (hn k nd hnd)]
      exact lastOf_map (bOf P) (bOf out) pl nd (fun x hx => by
        have := hu k nd hnd x hx
        exact ih x this (by omega))
  have hp : ∀ k, k < P.length → pl k < out.length := fun k hk => by
    obtain ⟨nd, hnd⟩ := lt_get hk
    exact get_lt (hn k nd hnd)
  have hc := canon_of_rising hs hbo hr.rising
  refine ⟨fun k nd hk _ => hn k nd hk, fun i hi => ?_, fun k j hk hj _ _ h => ?_, fun k j x y hk hj _ _ h hx hy hl => ?_, fun k j hk hj _ _ h => ?_⟩
  · obtain ⟨k, h1, h2⟩ := hsur i hi
    exact ⟨k, h1, trivial, h2⟩
  · exact hc.born (pl k) (pl j) (hp k hk) (hp j hj) trivial trivial (by rw [hb k hk, hb j hj]; exact h)
  · exact hc.ahead (pl k) (pl j) x y (hp k hk) (hp j hj) trivial trivial (by rw [hb k hk, hb j hj]; exact h) hx hy hl
  · exact hc.once (pl k) (pl j) (hp k hk) (hp j hj) trivial trivial h
theorem LineF.rising {P : List Nd} (h : LineF P) : RisingBy P (bOf P) := line_rising h.line h.struct.under
theorem LineF.fit {P : List Nd} (h : LineF P) (hl : P.length ≤ 125) : Fit P := ⟨h.pos, hl, h.struct.under, h.used, h.small⟩
theorem LineF.goodB {P : List Nd} (h : LineF P) (hl : P.length ≤ 120) : goodB (P.map upN) = true := by
  refine (goodB_iff _).2 ⟨⟨by simpa using h.pos, by simpa using hl, fun nd hnd => ?_⟩, structZ_up h.struct, ?_, ?_⟩
  · obtain ⟨x, hx, rfl⟩ := List.mem_map.1 hnd
    have := h.small x hx
    simpa [upN, upL] using this
  · rw [down_up]; exact h.rising
  · rw [down_up]; exact h.used
def zeroD : List Nd := [([], [])]
end

section
set_option linter.unusedVariables false
set_option linter.unusedSimpArgs false
open Go.RowKit
theorem below_viaZ {a W b : World} (h : Below a.heap.size a W) (g : Below W.heap.size W b) : Below a.heap.size a b := h.trans (g.mono h.size)
def FormPost (w : World) (f : List Nz) (e : Ending) (w' : World) : Prop := ∃ a c, e = .returned (.agg #[.slice a f.length c]) ∧ NodesZ w' w.heap.size w'.heap.size (.slice a f.length c) f ∧ Below w.heap.size w w'
theorem zeroS_calls (w : World) : Calls Try.prog 36 #[] w (FormPost w (zeroD.map upN)) := by
  go_enter Try.func36, Try.ntmps36
  go_wp2_with fail
  have z1 : (w.alloc (.cells #[.slice (some ⟨w.heap.size + 1, 0, none⟩) 1 1] 28)).heap.size = w.heap.size + 1 := by simp
  have b1 : Below w.heap.size w (w.alloc (.cells #[.slice (some ⟨w.heap.size + 1, 0, none⟩) 1 1] 28)) := (Below.refl _ _).alloc (Nat.le_refl _) _
  have b2 : Below (w.alloc (.cells #[.slice (some ⟨w.heap.size + 1, 0, none⟩) 1 1] 28)).heap.size (w.alloc (.cells #[.slice (some ⟨w.heap.size + 1, 0, none⟩) 1 1] 28)) ((w.alloc (.cells #[.slice (some ⟨w.heap.size + 1, 0, none⟩) 1 1] 28)).alloc (.cells #[.slice none 0 0, .slice none 0 0] 57)) := (Below.refl _ _).alloc (Nat.le_refl _) _
  have hcr : ((w.alloc (.cells #[.slice (some ⟨w.heap.size + 1, 0, none⟩) 1 1] 28)).alloc (.cells #[.slice none 0 0, .slice none 0 0] 57)).cell? ⟨w.heap.size, 0, none⟩ = some (.slice (some ⟨w.heap.size + 1, 0, none⟩) 1 1) := (bcell b2 _ _ (by simp)).trans (by go_simp)
  have n1 : ((w.alloc (.cells #[.slice (some ⟨w.heap.size + 1, 0, none⟩) 1 1] 28)).alloc (.cells #[.slice none 0 0, .slice none 0 0] 57)).cell? ⟨w.heap.size + 1, 0, none⟩ = some (.slice none 0 0) := by rw [← z1]; go_simp
  have n2 : ((w.alloc (.cells #[.slice (some ⟨w.heap.size + 1, 0, none⟩) 1 1] 28)).alloc (.cells #[.slice none 0 0, .slice none 0 0] 57)).cell? ⟨w.heap.size + 1, 1, none⟩ = some (.slice none 0 0) := by rw [← z1]; go_simp
  have hz : ((w.alloc (.cells #[.slice (some ⟨w.heap.size + 1, 0, none⟩) 1 1] 28)).alloc (.cells #[.slice none 0 0, .slice none 0 0] 57)).heap.size = w.heap.size + 2 := by simp
  refine bodyPost_ret (v := .agg #[.slice (some ⟨w.heap.size + 1, 0, none⟩) 1 1]) (by simp [results, Try.results36, go_sem, hcr]) rfl ⟨some ⟨w.heap.size + 1, 0, none⟩, 1, rfl, ?_, below_viaZ b1 b2⟩
  refine ⟨_, 1, rfl, ⟨Nat.le_refl _, by simp⟩, fun j nd hj => ?_⟩
  have h0 := get_lt hj
  have h1 : (zeroD.map upN).length = 1 := rfl
  rw [h1] at h0
  obtain rfl : j = 0 := by omega
  have e : nd = ([], []) := by
    have h2 : (zeroD.map upN)[0]? = some ([], []) := rfl
    rw [h2] at hj
    injection hj with hj
    exact hj.symm
  subst e
  exact ⟨w.heap.size + 1, 0, .slice none 0 0, .slice none 0 0, rfl, by omega, by rw [hz]; omega, n1, n2, ⟨none, 0, rfl, by simp, fun j x hx => by simp at hx⟩, ⟨none, 0, rfl, by simp, fun j x hx => by simp at hx⟩⟩
end

section
set_option linter.unusedVariables false
set_option linter.unusedSimpArgs false
open Go.RowKit
def SoPostS (w : World) (g : List Nz) (ok : Bool) (e : Ending) (w' : World) : Prop := ∃ a c, e = .returned (.tuple #[.agg #[.slice a g.length c], .bool ok]) ∧ NodesZ w' w.heap.size w'.heap.size (.slice a g.length c) g ∧ Below w.heap.size w w'
theorem soPostS_none {w w' : World} {e : Ending} (he : e = .returned (.tuple #[.agg #[.slice none 0 0], .bool false])) (hb : Below w.heap.size w w') : SoPostS w [] false e w' := ⟨none, 0, he, ⟨none, 0, rfl, by simp, fun j nd hj => by simp at hj⟩, hb⟩
theorem pairC_below {B b o : Nat} {v1 v2 : Value} {W w1 : World} (hb : Below W.heap.size W w1) (h : W.cell? ⟨B, 0, none⟩ = some v1 ∧ W.cell? ⟨b, o, none⟩ = some v2) : w1.cell? ⟨B, 0, none⟩ = some v1 ∧ w1.cell? ⟨b, o, none⟩ = some v2 :=
  ⟨(bcell hb _ _ (block_of_cell h.1)).trans h.1, (bcell hb _ _ (block_of_cell h.2)).trans h.2⟩
theorem pairC_re {B b q : Nat} {v1 v2 : Value} {W : World} {o o' : Obj} (h1 : B < W.heap.size) (h2 : b < W.heap.size) (h : (W.alloc o).cell? ⟨B, 0, none⟩ = some v1 ∧ (W.alloc o).cell? ⟨b, q, none⟩ = some v2) : (W.alloc o').cell? ⟨B, 0, none⟩ = some v1 ∧ (W.alloc o').cell? ⟨b, q, none⟩ = some v2 := by
  have b1 : Below W.heap.size W (W.alloc o) := (Below.refl _ _).alloc (Nat.le_refl _) _
  have b2 : Below W.heap.size W (W.alloc o') := (Below.refl _ _).alloc (Nat.le_refl _) _
  exact ⟨(bcell b2 _ _ h1).trans ((bcell b1 _ _ h1).symm.trans h.1), (bcell b2 _ _ h2).trans ((bcell b1 _ _ h2).symm.trans h.2)⟩
theorem pairC_set {B b o q : Nat} {v1 v2 u : Value} {W : World} (h1 : B ≠ q) (h2 : b ≠ q) (h : W.cell? ⟨B, 0, none⟩ = some v1 ∧ W.cell? ⟨b, o, none⟩ = some v2) : (W.setCell ⟨q, 0, none⟩ u).cell? ⟨B, 0, none⟩ = some v1 ∧ (W.setCell ⟨q, 0, none⟩ u).cell? ⟨b, o, none⟩ = some v2 :=
  ⟨(World.cell?_setCell_other _ _ _ _ (fun e => by injection e with e _ _; omega)).trans h.1, (World.cell?_setCell_other _ _ _ _ (fun e => by injection e with e _ _; omega)).trans h.2⟩
set_option maxRecDepth 100000 in
set_option maxHeartbeats 4000000 in
theorem sumOfS_calls (v : Value) (Fs : List (List Nz)) (g : List Nz) (ok : Bool) (hok : Hid (soOk Fs = ok)) (hg : Hid (soV Fs = g)) (w : World) (lo hi : Nat) (hh : hi ≤ w.heap.size) (hv : FormsZ w lo hi v Fs) :
    Calls Try.prog 11 #[v] w (SoPostS w g ok) := by
  have HV := Lib.hid fun (W : World) (hW : Below w.heap.size w W) => hv.below hW hh
  have hb0 : Below w.heap.size w (w.alloc (.cells #[.slice none 0 0] 28)) := (Below.refl _ _).alloc (Nat.le_refl _) _
  have hx0 : BoxAt (w.alloc (.cells #[.slice none 0 0] 28)) w.heap.size (.slice none 0 0) := ⟨by go_simp, by go_simp⟩
  have HB0 := Lib.hid hb0
  have HX0 := Lib.hid hx0
  obtain ⟨r0, hr0⟩ : ∃ r, alB 12 Fs = r := ⟨_, rfl⟩
  have CA := Lib.hid (l3All_calls v Fs 12 (by omega) r0 (Lib.hid hr0) (w.alloc (.cells #[.slice none 0 0] 28)) lo hi (by have := hb0.size; omega) (hv.below hb0 hh))
  have HR0 := Lib.hid hr0
  obtain ⟨av, cv, rfl⟩ : ∃ a c, v = .slice a Fs.length c := by obtain ⟨a, c, e, _⟩ := hv; exact ⟨a, c, e⟩
  clear hv hb0 hx0 hr0
  go_enter Try.func11, Try.ntmps11
  go_wp2_with fail
  refine CA.out.mono ?_
  rintro e w0 ⟨rfl, hb1⟩
  have HBa := Lib.hid (below_viaZ HB0.out hb1)
  have HXa := Lib.hid (HX0.out.below hb1)
  clear hb1 CA HB0 HX0
  cases r0 with
  | false =>
    obtain rfl : ok = false := by rw [← hok.out]; exact soOk_all HR0.out
    obtain rfl : g = [] := by rw [← hg.out, soV_no hok.out]
    obtain ⟨d1, z1⟩ := HXa.out
    have B4 := Lib.hid (HBa.out.setCell (p := ⟨w.heap.size, 0, none⟩) (Nat.le_refl _) (.slice none 0 0))
    have hcr := World.cell?_setCell_same w0 ⟨w.heap.size, 0, none⟩ (.slice none 0 0) d1
    go_wp2_with fail
    exact bodyPost_ret (v := .tuple #[.agg #[.slice none 0 0], .bool false]) (by simp [results, Try.results11, go_sem, hcr]) rfl (soPostS_none rfl B4.out)
  | true =>
    have hn := (alB_parts HR0.out).1
    have C0 := Lib.hid (zeroS_calls w0)
    have HS2 : Hid (ok = (soF Fs).2) := Lib.hid (by rw [← hok.out]; unfold soOk; rw [decide_eq_true hn, Bool.true_and])
    have HS1 : Hid (g = if ok then (soF Fs).1 else []) := Lib.hid (by
      cases ho : ok with
      | false => rw [← hg.out, soV_no (by rw [hok.out, ho])]; rfl
      | true => rw [← hg.out, soV_yes (by rw [hok.out, ho])]; rfl)
    have ez : (zeroD.map upN).length = 1 := rfl
    clear hok hg
    go_wp2_with fail
    refine C0.out.mono ?_
    rintro e w1 ⟨a0, c0, rfl, hz0, hb1⟩
    rw [ez]
    rw [ez] at hz0
    have hL1 : Below w1.heap.size w1 (w1.alloc (.cells #[.slice a0 1 c0] 28)) := (Below.refl _ _).alloc (Nat.le_refl _) _
    have b1 := below_viaZ hb1 hL1
    have HB1 := Lib.hid (below_viaZ HBa.out b1)
    have HX1 := Lib.hid (HXa.out.below b1)
    have HS0 : Hid (BoxAt (w1.alloc (.cells #[.slice a0 1 c0] 28)) w1.heap.size (.slice a0 ((soF (Fs.take 0)).1).length c0)) := Lib.hid ⟨by rw [List.take_zero]; show World.cell? _ _ = some (.slice a0 1 c0); go_simp, by go_simp⟩
    have hlt0 := block_of_cell HXa.out.1
    have hz1 : w.heap.size < w1.heap.size := by have := hb1.size; omega
    have HO0 : Hid (NodesZ (w1.alloc (.cells #[.slice a0 1 c0] 28)) (w.heap.size + 1) w1.heap.size (.slice a0 ((soF (Fs.take 0)).1).length c0) ((soF (Fs.take 0)).1)) := Lib.hid (by rw [List.take_zero]; exact (hz0.below hL1 (Nat.le_refl _)).wide (by omega) (Nat.le_refl _))
    obtain ⟨B, hB⟩ : ∃ B, w1.heap.size = B := ⟨_, rfl⟩
    rw [hB] at HS0 hz1 HO0
    have HBE := Lib.hid hB
    clear hz0 hb1 hL1 b1 C0 HBa HXa
    go_wp2
    go_loopw [5] (fun i wr => ∃ (k : Nat) (a : Option Addr) (c hi2 : Nat), k ≤ Fs.length ∧ i = .int .i64 k ∧ hi2 ≤ wr.heap.size ∧ Hid ((soF (Fs.take k)).2 = true) ∧ Hid (BoxAt wr B (.slice a ((soF (Fs.take k)).1).length c)) ∧ Hid (NodesZ wr (w.heap.size + 1) hi2 (.slice a ((soF (Fs.take k)).1).length c) ((soF (Fs.take k)).1)) ∧
      Hid (BoxAt wr w.heap.size (.slice none 0 0)) ∧ Hid (Below w.heap.size w wr)) (fun i _ => Fs.length - (intOf i).toNat)
    case atStart => exact ⟨0, _, _, _, Nat.zero_le _, rfl, by rw [← HBE.out]; simp, Lib.hid (by rw [List.take_zero]; rfl), HS0, HO0, HX1, HB1⟩
    case round =>
      obtain ⟨k, a, c, hi2, hk, rfl, hh2, hyes, hbx, ho, hbr, hb⟩ := hrel
      clear HS0 HO0 HX1 HB1
      by_cases hlt : k < Fs.length
      · obtain ⟨f, hf⟩ := lt_get hlt
        obtain ⟨ao1, c1, e1, _, hnn⟩ := HV.out wr hb.out
        obtain ⟨b, off, vf, rfl, _, hbh, p1, i1⟩ := hnn k f hf
        obtain ⟨q1, q2, q3⟩ := slice_inj e1
        subst q1 q3
        clear q2 hnn e1
        obtain ⟨af, cf, hvf⟩ : ∃ a c, vf = .slice a f.length c := by obtain ⟨a, c, e, _⟩ := i1; exact ⟨a, c, e⟩
        subst hvf
        obtain ⟨r, hr⟩ : ∃ r, sumOk (soF (Fs.take k)).1 f = r := ⟨_, rfl⟩
        have HNX : Hid (r = true → soF (Fs.take (k + 1)) = (sumV (soF (Fs.take k)).1 f, true)) := Lib.hid (fun h => soF_yes hf hyes.out (by rw [hr]; exact h))
        have HNO : Hid (r = false → (soF Fs).2 = false) := Lib.hid (fun h => soF_no hf (by rw [hr]; exact h))
        obtain ⟨S, hS⟩ : ∃ S, (soF (Fs.take k)).1 = S := ⟨_, rfl⟩
        rw [hS] at hbx ho hr HNX
        obtain ⟨g2, hg2⟩ : ∃ g, sumV S f = g := ⟨_, rfl⟩
        rw [hg2] at HNX
        have hbs := hb.out.size
        have hBl := block_of_cell hbx.out.1
        have C := Lib.hid fun (W : World) (hW : Below wr.heap.size wr W) => sumS_calls (.slice a S.length c) (.slice af f.length cf) S f g2 r (Lib.hid hr) (Lib.hid hg2) W (w.heap.size + 1) hi2 lo hi (by have := hW.size; omega) (by have := hW.size; omega) (ho.out.below hW hh2) (i1.below hW (by omega))
        have hpB := hbx.out.1
        have k0 : (0 : Int) ≤ k := by omega
        have k1 : (k : Int) < Fs.length := by omega
        have hbl := block_of_cell p1
        have hS0 : wr.drew.cell? ⟨B, 0, none⟩ = some (.slice a S.length c) ∧ wr.drew.cell? ⟨b, off + k, none⟩ = some (.slice af f.length cf) := ⟨hpB, p1⟩
        have bl0 : Below wr.heap.size wr wr.drew := below_drewN (Below.refl _ _) 1
        have bl1 := fun o => show Below wr.heap.size wr (wr.alloc o).drew from below_drewN ((Below.refl _ _).alloc (Nat.le_refl _) _) 1
        clear hf hr hS hg2
        go_wp2
        go_region_held3 (fun w' : World => w'.cell? ⟨B, 0, none⟩ = some (.slice a S.length c) ∧ w'.cell? ⟨b, off + k, none⟩ = some (.slice af f.length cf)) (first | exact hS0 | (go_split_ands; exact ⟨‹_›, ‹_›⟩) | (go_split_ands; exact pairC_below hb2 ⟨‹_›, ‹_›⟩) | (go_split_ands; exact pairC_below ((Below.refl _ _).alloc (Nat.le_refl _) _) ⟨‹_›, ‹_›⟩) | (go_split_ands; exact pairC_set (by omega) (by omega) ⟨‹_›, ‹_›⟩) | (go_split_ands; exact pairC_re (by have := HBW.out.size; omega) (by have := HBW.out.size; omega) ⟨‹_›, ‹_›⟩)) (first
          | (go_at_call 37; (with_reducible refine (C.out _ (bl1 _)).mono ?_); rintro e w2 ⟨a2, c2, rfl, hn2, hb2⟩; have kx := (bcell hb2 wr.heap.size 0 (by simp)).trans (show World.cell? _ _ = some (.slice none 0 0) by go_simp); have kf := (hb2.frozen (p := ⟨wr.heap.size, 0, none⟩) (by simp)).trans (show World.frozen? _ _ = false by go_simp); have HBW : Hid (Below wr.heap.size wr w2) := Lib.hid (below_viaZ (bl1 _) hb2))
          | (go_at_call 37; (with_reducible refine (C.out _ bl0).mono ?_); rintro e w2 ⟨a2, c2, rfl, hn2, hb2⟩; have HBW : Hid (Below wr.heap.size wr w2) := Lib.hid (below_viaZ bl0 hb2)))
        · have hbw := hb.out.size
          have hal : Below w2.heap.size w2 (w2.alloc (.cells #[.slice a2 g2.length c2] 28)) := (Below.refl _ _).alloc (Nat.le_refl _) _
          have HW3 := Lib.hid (below_viaZ HBW.out hal)
          have HN3 : Hid (NodesZ (w2.alloc (.cells #[.slice a2 g2.length c2] 28)) wr.heap.size w2.heap.size (.slice a2 g2.length c2) g2) := Lib.hid (hn2.below hal (Nat.le_refl _))
          have kz : (w2.alloc (.cells #[.slice a2 g2.length c2] 28)).cell? ⟨w2.heap.size, 0, none⟩ = some (.slice a2 g2.length c2) := by go_simp
          have hi3 : w2.heap.size ≤ (w2.alloc (.cells #[.slice a2 g2.length c2] 28)).heap.size := hal.size
          have hBlt : B < wr.heap.size := hBl
          clear hal
          have HB3 := Lib.hid (hb.out.trans (HW3.out.mono hbw))
          have HX3 := Lib.hid (hbr.out.below HW3.out)
          obtain ⟨dB, zB⟩ := hbx.out.below HW3.out
          have s3 := HW3.out.size
          go_upto_region 8 with fail
          generalize w2.alloc (.cells #[.slice a2 g2.length c2] 28) = W3 at HW3 HN3 kz HB3 HX3 dB zB s3 hi3 ⊢
          clear hbx ho hbr hb HW3 hpB p1 hS0 bl0 bl1 C hn2 hb2 HBW i1
          cases r with
          | false =>
            obtain rfl : ok = false := by rw [HS2.out]; exact HNO.out rfl
            obtain rfl : g = [] := by rw [HS1.out]; rfl
            obtain ⟨d1, z1⟩ := HX3.out
            have B4 := Lib.hid (HB3.out.setCell (p := ⟨w.heap.size, 0, none⟩) (Nat.le_refl _) (.slice none 0 0))
            have hcr := World.cell?_setCell_same W3 ⟨w.heap.size, 0, none⟩ (.slice none 0 0) d1
            clear hyes HNX HNO
            go_wp2_with fail
            exact bodyPost_ret (v := .tuple #[.agg #[.slice none 0 0], .bool false]) (by simp [results, Try.results11, go_sem, hcr]) rfl (soPostS_none rfl B4.out)
          | true =>
            have hnx := HNX.out rfl
            have HY : Hid ((soF (Fs.take (k + 1))).2 = true) := Lib.hid (by rw [hnx])
            have HE : Hid ((soF (Fs.take (k + 1))).1 = g2) := Lib.hid (by rw [hnx])
            have O7 : Only W3 (W3.setCell ⟨B, 0, none⟩ (.slice a2 g2.length c2)) (fun b => b = B) := Only.of_set (F := fun b => b = B) (p := ⟨B, 0, none⟩) _ rfl
            have R1 : Hid (BoxAt (W3.setCell ⟨B, 0, none⟩ (.slice a2 g2.length c2)) B (.slice a2 ((soF (Fs.take (k + 1))).1).length c2)) := Lib.hid (by rw [HE.out]; exact ⟨World.cell?_setCell_same _ _ _ dB, by rw [World.frozen?_setCell]; exact zB⟩)
            have R2 : Hid (NodesZ (W3.setCell ⟨B, 0, none⟩ (.slice a2 g2.length c2)) (w.heap.size + 1) (W3.setCell ⟨B, 0, none⟩ (.slice a2 g2.length c2)).heap.size (.slice a2 ((soF (Fs.take (k + 1))).1).length c2) ((soF (Fs.take (k + 1))).1)) := Lib.hid (by
              rw [HE.out]
              exact (NodesZ.keep HN3.out (fun b o h1 h2 => World.cell?_setCell_other _ _ _ _ (fun e => by injection e with e _ _; omega))).wide (by omega) (by simpa using hi3))
            have R3 := Lib.hid (HX3.out.only O7 (by omega))
            have R4 := Lib.hid (HB3.out.setCell (p := ⟨B, 0, none⟩) (by show w.heap.size ≤ B; omega) (.slice a2 g2.length c2))
            clear hnx HNX HNO HX3 HB3 O7 hyes HN3
            go_wp2_with fail
            go_roundw
            case rel => exact ⟨k + 1, a2, c2, _, by omega, by go_num, Nat.le_refl _, HY, R1, R2, R3, R4⟩
            case measure => first | (simp [intOf]; done) | (simp [intOf]; omega)
        · have hbw := hb.out.size
          have HW3 : Hid (Below wr.heap.size wr (w2.setCell ⟨wr.heap.size, 0, none⟩ (.slice a2 g2.length c2))) := Lib.hid (HBW.out.setCell (Nat.le_refl _) _)
          have HN3 : Hid (NodesZ (w2.setCell ⟨wr.heap.size, 0, none⟩ (.slice a2 g2.length c2)) (wr.heap.size + 1) w2.heap.size (.slice a2 g2.length c2) g2) := Lib.hid ((NodesZ.keep hn2 (fun b o h1 h2 => World.cell?_setCell_other _ _ _ _ (fun e => by injection e with e _ _; simp at h1; omega))).wide (by simp) (Nat.le_refl _))
          have kz : (w2.setCell ⟨wr.heap.size, 0, none⟩ (.slice a2 g2.length c2)).cell? ⟨wr.heap.size, 0, none⟩ = some (.slice a2 g2.length c2) := World.cell?_setCell_same _ _ _ kx
          have hi3 : w2.heap.size ≤ (w2.setCell ⟨wr.heap.size, 0, none⟩ (.slice a2 g2.length c2)).heap.size := by simp
          have hBlt : B < wr.heap.size := hBl
          clear kx kf
          have HB3 := Lib.hid (hb.out.trans (HW3.out.mono hbw))
          have HX3 := Lib.hid (hbr.out.below HW3.out)
          obtain ⟨dB, zB⟩ := hbx.out.below HW3.out
          have s3 := HW3.out.size
          go_upto_region 8 with fail
          generalize w2.setCell ⟨wr.heap.size, 0, none⟩ (.slice a2 g2.length c2) = W3 at HW3 HN3 kz HB3 HX3 dB zB s3 hi3 ⊢
          clear hbx ho hbr hb HW3 hpB p1 hS0 bl0 bl1 C hn2 hb2 HBW i1
          cases r with
          | false =>
            obtain rfl : ok = false := by rw [HS2.out]; exact HNO.out rfl
            obtain rfl : g = [] := by rw [HS1.out]; rfl
            obtain ⟨d1, z1⟩ := HX3.out
            have B4 := Lib.hid (HB3.out.setCell (p := ⟨w.heap.size, 0, none⟩) (Nat.le_refl _) (.slice none 0 0))
            have hcr := World.cell?_setCell_same W3 ⟨w.heap.size, 0, none⟩ (.slice none 0 0) d1
            clear hyes HNX HNO
            go_wp2_with fail
            exact bodyPost_ret (v := .tuple #[.agg #[.slice none 0 0], .bool false]) (by simp [results, Try.results11, go_sem, hcr]) rfl (soPostS_none rfl B4.out)
          | true =>
            have hnx := HNX.out rfl
            have HY : Hid ((soF (Fs.take (k + 1))).2 = true) := Lib.hid (by rw [hnx])
            have HE : Hid ((soF (Fs.take (k + 1))).1 = g2) := Lib.hid (by rw [hnx])
            have O7 : Only W3 (W3.setCell ⟨B, 0, none⟩ (.slice a2 g2.length c2)) (fun b => b = B) := Only.of_set (F := fun b => b = B) (p := ⟨B, 0, none⟩) _ rfl
            have R1 : Hid (BoxAt (W3.setCell ⟨B, 0, none⟩ (.slice a2 g2.length c2)) B (.slice a2 ((soF (Fs.take (k + 1))).1).length c2)) := Lib.hid (by rw [HE.out]; exact ⟨World.cell?_setCell_same _ _ _ dB, by rw [World.frozen?_setCell]; exact zB⟩)
            have R2 : Hid (NodesZ (W3.setCell ⟨B, 0, none⟩ (.slice a2 g2.length c2)) (w.heap.size + 1) (W3.setCell ⟨B, 0, none⟩ (.slice a2 g2.length c2)).heap.size (.slice a2 ((soF (Fs.take (k + 1))).1).length c2) ((soF (Fs.take (k + 1))).1)) := Lib.hid (by
              rw [HE.out]
              exact (NodesZ.keep HN3.out (fun b o h1 h2 => World.cell?_setCell_other _ _ _ _ (fun e => by injection e with e _ _; omega))).wide (by omega) (by simpa using hi3))
            have R3 := Lib.hid (HX3.out.only O7 (by omega))
            have R4 := Lib.hid (HB3.out.setCell (p := ⟨B, 0, none⟩) (by show w.heap.size ≤ B; omega) (.slice a2 g2.length c2))
            clear hnx HNX HNO HX3 HB3 O7 hyes HN3
            go_wp2_with fail
            go_roundw
            case rel => exact ⟨k + 1, a2, c2, _, by omega, by go_num, Nat.le_refl _, HY, R1, R2, R3, R4⟩
            case measure => first | (simp [intOf]; done) | (simp [intOf]; omega)
      · have hke : k = Fs.length := by omega
        subst hke
        rw [List.take_length] at hyes hbx ho
        obtain rfl : ok = true := by rw [HS2.out]; exact hyes.out
        have hgS : g = (soF Fs).1 := HS1.out
        rw [← hgS] at hbx ho
        obtain ⟨d1, z1⟩ := hbr.out
        have hlt1 := block_of_cell d1
        have kB := hbx.out.1
        have HN3 : Hid (NodesZ (wr.setCell ⟨w.heap.size, 0, none⟩ (.slice a g.length c)) w.heap.size (wr.setCell ⟨w.heap.size, 0, none⟩ (.slice a g.length c)).heap.size (.slice a g.length c) g) := Lib.hid ((NodesZ.keep ho.out (fun b o h1 h2 => World.cell?_setCell_other _ _ _ _ (fun e => by injection e with e _ _; omega))).wide (by omega) (by simpa using hh2))
        have HB3 := Lib.hid (hb.out.setCell (p := ⟨w.heap.size, 0, none⟩) (Nat.le_refl _) (.slice a g.length c))
        have hcr := World.cell?_setCell_same wr ⟨w.heap.size, 0, none⟩ (.slice a g.length c) d1
        clear hyes hbx ho hbr hb hgS
        go_wp2_with fail
        exact bodyPost_ret (v := .tuple #[.agg #[.slice a g.length c], .bool true]) (by simp [results, Try.results11, go_sem, hcr]) rfl ⟨a, c, rfl, HN3.out, HB3.out⟩
end

end Go.Proofs.Ytabfdaofikccmaa
