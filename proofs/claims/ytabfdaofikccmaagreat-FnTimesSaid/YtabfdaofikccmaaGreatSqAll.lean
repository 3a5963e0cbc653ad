/- Nodes put one by one into a book of the call's own, and the places where they are. -/
import Derived.Test.YtabfdaofikccmaaGreatFmRootN
import Derived.Test.YtabfdaofikccmaaGreatFmPartL
import Derived.Test.YtabfdaofikccmaaGreatFmFits
import Derived.Test.YtabfdaofikccmaaGreatFmLaw
import Derived.Test.YtabfdaofikccmaaGreatInOf
import Derived.Test.YtabfdaofikccmaaGreatSmM
import Derived.Test.YtabfdaofikccmaaGreatInAll
import Derived.Test.YtabfdaofikccmaaGreatSpAll
import Derived.Deep.RegionHeld3
namespace Go.Proofs.YtabfdaofikccmaaGreat
section
open Go.RowKit
set_option linter.unusedVariables false
set_option linter.unusedSimpArgs false

structure BkAt (base : Nat) (wr : World) (P : List Nd) (ga ca : Nat) (vn vb : Value) (vs : List (Value × Value)) : Prop where
  bk : Bk base wr base (addF [] P).1 (bornsOf (addF [] P).1) vn vb vs (fun g => g = ga)
  own : wr.ownsRow base 3 1 (.slice (some ⟨ga, 0, none⟩) P.length ca) P.length ((addF [] P).2.map iv)
  lt : base < ga
  nf : ¬ Foot base vn vb ga

theorem BkAt.size {base : Nat} {wr : World} {P : List Nd} {ga ca : Nat} {vn vb : Value} {vs : List (Value × Value)} (h : BkAt base wr P ga ca vn vb vs) : ga < wr.heap.size ∧ base < wr.heap.size := by
  have := (World.ownsRow.lt h.own ga rfl).2
  exact ⟨this, by have := h.lt; omega⟩
theorem BkAt.below {base : Nat} {wr w' : World} {P : List Nd} {ga ca : Nat} {vn vb : Value} {vs : List (Value × Value)} (h : BkAt base wr P ga ca vn vb vs) (hb : Below wr.heap.size wr w') : BkAt base w' P ga ca vn vb vs :=
  ⟨h.bk.below hb, own_only h.own (Only.of_below (F := fun _ => False) hb) (fun _ _ => id), h.lt, h.nf⟩

/-- the first one: nothing is there yet -/
theorem BkAt.start (w : World) : BkAt w.heap.size ((w.alloc (.cells #[.slice none 0 0, .slice none 0 0] 105)).alloc (.cells #[] 3)) [] (w.heap.size + 1) 0 (.slice none 0 0) (.slice none 0 0) [] := by
  have hz : (w.alloc (.cells #[.slice none 0 0, .slice none 0 0] 105)).heap.size = w.heap.size + 1 := by simp
  have hb : Below (w.alloc (.cells #[.slice none 0 0, .slice none 0 0] 105)).heap.size (w.alloc (.cells #[.slice none 0 0, .slice none 0 0] 105)) ((w.alloc (.cells #[.slice none 0 0, .slice none 0 0] 105)).alloc (.cells #[] 3)) := (Below.refl _ _).alloc (Nat.le_refl _) _
  refine ⟨?_, ?_, by omega, ?_⟩
  · exact ((bk_nil w).reX (Y := fun g => g = w.heap.size + 1) (fun g hg e => by rw [hz] at hg; omega)).below hb
  · have h := World.ownsRow_lit (base := w.heap.size) (e := 3) (size := 1) (w.alloc (.cells #[.slice none 0 0, .slice none 0 0] 105)) #[] 0 (by rw [hz]; omega) (by unfold maxLen; omega) rfl
    rw [hz] at h
    exact h
  · rintro (h | h | h)
    · omega
    · simp [Value.ownBlock] at h
    · simp [Value.ownBlock] at h

theorem at_len (P : List Nd) : (addF [] P).2.length = P.length := (addF_len [] P).1
theorem at_add (P : List Nd) (L R : List Nat) : addF [] (P ++ [(L, R)]) =
    (bookPut (addF [] P).1 (sortd (L.map (fun x => (addF [] P).2.getD x 0)), sortd (R.map (fun x => (addF [] P).2.getD x 0))),
      (addF [] P).2 ++ [seat (addF [] P).1 (sortd (L.map (fun x => (addF [] P).2.getD x 0)), sortd (R.map (fun x => (addF [] P).2.getD x 0)))]) := by
  rw [addF_snoc]
  rfl

/-- where the next one stands -/
def seatAt (P : List Nd) (L R : List Nat) : Nat := seat (addF [] P).1 (sortd (L.map (fun x => (addF [] P).2.getD x 0)), sortd (R.map (fun x => (addF [] P).2.getD x 0)))

theorem BkAt.ints {base : Nat} {wr : World} {P : List Nd} {ga ca : Nat} {vn vb : Value} {vs : List (Value × Value)} (h : BkAt base wr P ga ca vn vb vs) (hP : P.length ≤ 90000) : IntsZ wr ga (ga + 1) (.slice (some ⟨ga, 0, none⟩) P.length ca) (upL (addF [] P).2) := (own_intsA h.own (by omega)).2

/-- the places that some options are at -/
theorem BkAt.l3At_calls {base : Nat} {wr : World} {P : List Nd} {ga ca : Nat} {vn vb : Value} {vs : List (Value × Value)} (h : BkAt base wr P ga ca vn vb vs) (hP : P.length ≤ 90000) (W : World) (hW : Below wr.heap.size wr W) (v : Value) (L : List Nat) (lo hi : Nat) (hh : hi ≤ W.heap.size) (hv : IntsZ W lo hi v (upL L)) (hl : L.length ≤ 90000) (hx : ∀ x ∈ L, x < P.length) :
    Calls Tryz.prog 117 #[.slice (some ⟨ga, 0, none⟩) P.length ca, v] W fun e w' => ∃ b c, e = .returned (.slice (some ⟨b, 0, none⟩) L.length c) ∧ IntsZ w' W.heap.size w'.heap.size (.slice (some ⟨b, 0, none⟩) L.length c) (upL (L.map (fun x => (addF [] P).2.getD x 0))) ∧ Below W.heap.size W w' := by
  have hs := h.size
  refine (Go.Proofs.YtabfdaofikccmaaGreat.l3At_calls (.slice (some ⟨ga, 0, none⟩) P.length ca) v (addF [] P).2 L W ga (ga + 1) lo hi (by have := hW.size; omega) hh ((h.ints hP).below hW (by omega)) hv (by omega) (fun x hx' => by rw [at_len]; exact hx x hx')).mono ?_
  rintro e w' ⟨b, c, h1, h2, _, _, h5⟩
  exact ⟨b, c, h1, h2, h5⟩

/-- a node is put -/
theorem BkAt.put_calls {base : Nat} {wr : World} {P : List Nd} {ga ca : Nat} {vn vb : Value} {vs : List (Value × Value)} (h : BkAt base wr P ga ca vn vb vs) (hu : Under P) (hP : P.length ≤ 90000) (W : World) (hW : Below wr.heap.size wr W) (vl vr : Value) (L R : List Nat) (l1 h1 l2 h2 : Nat) (hh1 : h1 ≤ W.heap.size) (hh2 : h2 ≤ W.heap.size)
    (hvl : IntsZ W l1 h1 vl (upL (L.map (fun x => (addF [] P).2.getD x 0)))) (hvr : IntsZ W l2 h2 vr (upL (R.map (fun x => (addF [] P).2.getD x 0)))) (hL : ∀ x ∈ L, x < P.length) (hR : ∀ x ∈ R, x < P.length) (hlL : L.length ≤ 90000) (hlR : R.length ≤ 90000) :
    Calls Tryz.prog 104 #[.pointer (some ⟨base, 0, none⟩), vl, vr] W fun e w' => e = .returned (.int .i64 ((seatAt P L R : Nat) : Int)) ∧ ∃ vn' vb' vs', Bk base w' base (addF [] (P ++ [(L, R)])).1 (bornsOf (addF [] (P ++ [(L, R)])).1) vn' vb' vs' (fun g => g = ga) ∧ Only W w' (Foot base vn vb) ∧ (∀ g, g < W.heap.size → Foot base vn' vb' g → Foot base vn vb g) := by
  have ha := addF_added [] book_nil P hu
  have hs := h.size
  have hlt : ∀ x, x < P.length → (addF [] P).2.getD x 0 < (addF [] P).1.length := fun x hx => by
    obtain ⟨n0, hn0⟩ := lt_get hx
    exact get_lt (ha.node x n0 hn0)
  have hlen := (addF_len [] P).2
  have hc := Go.Proofs.YtabfdaofikccmaaGreat.put_calls base base (addF [] P).1 vn vb vs (fun g => g = ga) vl vr (L.map (fun x => (addF [] P).2.getD x 0)) (R.map (fun x => (addF [] P).2.getD x 0)) W l1 h1 l2 h2 hh1 hh2 (h.bk.below hW) (fun g e => by have := hW.size; omega) ha.book.struct.under hvl hvr
    (fun y hy => by obtain ⟨x, hx, rfl⟩ := List.mem_map.1 hy; exact hlt x (hL x hx)) (fun y hy => by obtain ⟨x, hx, rfl⟩ := List.mem_map.1 hy; exact hlt x (hR x hx)) (by simp at hlen; omega) (by simp; omega) (by simp; omega)
  rw [at_add]
  exact hc

/-- ... and its place told -/
theorem BkAt.next {base : Nat} {wr W w6 w7 : World} {P : List Nd} {ga ca : Nat} {vn vb vn' vb' v7 : Value} {vs vs' : List (Value × Value)} {L R : List Nat} (h : BkAt base wr P ga ca vn vb vs) (hW : Below wr.heap.size wr W)
    (hK6 : Bk base w6 base (addF [] (P ++ [(L, R)])).1 (bornsOf (addF [] (P ++ [(L, R)])).1) vn' vb' vs' (fun g => g = ga)) (ho6 : Only W w6 (Foot base vn vb)) (hf6 : ∀ g, g < W.heap.size → Foot base vn' vb' g → Foot base vn vb g)
    (hown7 : w7.ownsRow base 3 1 v7 (P.length + 1) ((addF [] P).2.map iv ++ [iv (seatAt P L R)])) (hgrow7 : (w6.alloc (.cells #[.int .i64 ((seatAt P L R : Nat) : Int)] 3)).grownBy w7 (Value.slice (some ⟨ga, 0, none⟩) P.length ca).ownBlock)
    (hat7 : v7.ownBlock = (Value.slice (some ⟨ga, 0, none⟩) P.length ca).ownBlock ∨ v7.ownBlock = some (w6.alloc (.cells #[.int .i64 ((seatAt P L R : Nat) : Int)] 3)).heap.size) :
    ∃ g7 c7, v7 = .slice (some ⟨g7, 0, none⟩) (P.length + 1) c7 ∧ Hid (BkAt base w7 (P ++ [(L, R)]) g7 c7 vn' vb' vs') ∧ Hid (Only wr w7 (fun g => Foot base vn vb g ∨ g = ga)) ∧ Hid (Below base wr w7) := by
  obtain ⟨g7, c7, rfl, _, hg7h⟩ := hown7.form (by omega)
  have hs := h.size
  have hga := h.lt
  have HAPP : Only (w6.alloc (.cells #[.int .i64 ((seatAt P L R : Nat) : Int)] 3)) w7 (fun g => g = ga) := Only.of_grown hgrow7 (fun g e => by injection e with e; exact e.symm)
  have HK7a := hK6.below ((Below.refl w6.heap.size w6).alloc (Nat.le_refl _) (.cells #[.int .i64 ((seatAt P L R : Nat) : Int)] 3))
  have hz6 : (w6.alloc (.cells #[.int .i64 ((seatAt P L R : Nat) : Int)] 3)).heap.size = w6.heap.size + 1 := by simp
  have hz5 := hW.size
  have hs6 := ho6.size
  have hgaF : ¬ Foot base vn' vb' ga := fun hF => h.nf (hf6 ga (by omega) hF)
  have hat : g7 = ga ∨ g7 = w6.heap.size + 1 := by
    rcases hat7 with e | e
    · left; injection e
    · right; rw [hz6] at e; injection e
  have HK7b := (HK7a.reX (Y := fun g => g = ga ∨ g = w6.heap.size + 1) (fun g hg e => by rw [hz6] at hg; omega)).only (HAPP.mono (fun i _ e => Or.inl e)) (fun g hF e => by
    rcases e with e | e
    · exact hgaF (e ▸ hF)
    · have := (HK7a.lt g hF).2; rw [hz6] at this; omega)
  have HK7 : Bk base w7 base (addF [] (P ++ [(L, R)])).1 (bornsOf (addF [] (P ++ [(L, R)])).1) vn' vb' vs' (fun g => g = g7) := HK7b.reX (fun g _ e => by subst e; exact hat)
  have HNF7 : ¬ Foot base vn' vb' g7 := fun hF => by
    rcases hat with e | e
    · exact hgaF (e ▸ hF)
    · have := (HK7a.lt g7 hF).2; rw [hz6] at this; omega
  have OT : Only wr w7 (fun g => Foot base vn vb g ∨ g = ga) :=
    (((Only.of_below (F := fun g => Foot base vn vb g ∨ g = ga) hW).trans ho6 (fun i _ h => Or.inl h)).trans (Only.of_below (F := fun g => Foot base vn vb g ∨ g = ga) ((Below.refl w6.heap.size w6).alloc (Nat.le_refl _) (.cells #[.int .i64 ((seatAt P L R : Nat) : Int)] 3))) (fun i _ h => h)).trans HAPP (fun i _ h => Or.inr h)
  refine ⟨g7, c7, rfl, Lib.hid ⟨HK7, ?_, by omega, HNF7⟩, Lib.hid OT, Lib.hid (OT.below (by omega) (fun g hg => by
    rcases hg with hg | hg
    · exact (h.bk.lt g hg).1
    · omega))⟩
  rw [at_add, List.map_append, List.length_append]
  exact hown7
end

section
open Go.RowKit
set_option linter.unusedVariables false
set_option linter.unusedSimpArgs false

theorem goodS_res (v : Value) (f : List Nz) (r : Bool) (hr : Hid (goodB f = r)) (w : World) (lo hi : Nat) (hh : hi ≤ w.heap.size) (hv : NodesZ w lo hi v f) :
    Calls Tryz.prog 66 #[.agg #[v]] w fun e w' => e = .returned (.bool r) ∧ Below w.heap.size w w' := by
  rw [← hr.out]
  exact goodS_calls v f w lo hi hh hv
end

section
section
open Go.RowKit
set_option linter.unusedVariables false
set_option linter.unusedSimpArgs false

theorem slice_form {w : World} {lo hi : Nat} {v : Value} {f : List Nz} (h : NodesZ w lo hi v f) : ∃ a c, v = .slice a f.length c := by obtain ⟨a, c, e, _⟩ := h; exact ⟨a, c, e⟩

theorem l3If_calls (v : Value) (f : List Nz) (ok : Bool) (hok : Hid (fitsB f = ok)) (w : World) (lo hi : Nat) (hh : hi ≤ w.heap.size) (hv : NodesZ w lo hi v f) :
    Calls Tryz.prog 56 #[.agg #[v]] w fun e w' => e = .returned (.tuple #[.agg #[if ok then v else .slice none 0 0], .bool ok]) ∧ Below w.heap.size w w' := by
  have HB0 := Lib.hid fun o o' => show Below w.heap.size w ((w.alloc o).alloc o') from ((Below.refl _ _).alloc (Nat.le_refl _) _).alloc (by simp) _
  have C := Lib.hid fun (W : World) (hW : Below w.heap.size w W) => show Calls Tryz.prog 91 #[.agg #[v]] W fun e w' => e = .returned (.bool ok) ∧ Below W.heap.size W w' from by
    rw [← hok.out]
    exact fitsS_calls v f W lo hi (Nat.le_trans hh hW.size) (hv.below hW hh)
  obtain ⟨av, cv, rfl⟩ := slice_form hv
  clear hok hv
  go_enter Tryz.func56, Tryz.ntmps56
  go_wp2_with fail
  refine (C.out _ (HB0.out _ _)).mono ?_
  rintro e w4 ⟨rfl, hb4⟩
  have k0 : w4.cell? ⟨w.heap.size, 0, none⟩ = some (.slice av f.length cv) := (bcell hb4 _ _ (by simp; omega)).trans (by go_simp)
  obtain ⟨d0, z0⟩ : BoxAt w4 (w.heap.size + 1) (.slice none 0 0) := BoxAt.below ⟨by go_simp, by go_simp⟩ hb4
  have HB4 := Lib.hid (Below.trans (HB0.out _ _) (hb4.mono (by simp; omega)))
  have hlt := block_of_cell d0
  clear hb4 C
  cases ok with
  | false =>
    have B4 := Lib.hid (HB4.out.setCell (p := ⟨w.heap.size + 1, 0, none⟩) (by show w.heap.size ≤ w.heap.size + 1; omega) (.slice none 0 0))
    have hcr := World.cell?_setCell_same w4 ⟨w.heap.size + 1, 0, none⟩ (.slice none 0 0) d0
    go_wp2_with fail
    exact bodyPost_ret (v := .tuple #[.agg #[.slice none 0 0], .bool false]) (by simp [results, Tryz.results56, go_sem, hcr]) rfl ⟨rfl, B4.out⟩
  | true =>
    have B4 := Lib.hid (HB4.out.setCell (p := ⟨w.heap.size + 1, 0, none⟩) (by show w.heap.size ≤ w.heap.size + 1; omega) (.slice av f.length cv))
    have hcr := World.cell?_setCell_same w4 ⟨w.heap.size + 1, 0, none⟩ (.slice av f.length cv) d0
    go_wp2_with fail
    exact bodyPost_ret (v := .tuple #[.agg #[.slice av f.length cv], .bool true]) (by simp [results, Tryz.results56, go_sem, hcr]) rfl ⟨rfl, B4.out⟩

theorem fitsN_B (P : List Nd) : fitsN P = fitsB (P.map upN) := by
  have h1 := fitsN_iff P
  have h2 := fitsB_iff (P.map upN)
  cases hN : fitsN P <;> cases hB : fitsB (P.map upN)
  · rfl
  · rw [h2] at hB; rw [h1.2 hB] at hN; exact hN.symm
  · rw [h1] at hN; rw [h2.2 hN] at hB; exact hB
  · rfl

end
end

section
section
open Go.RowKit
set_option linter.unusedVariables false
set_option linter.unusedSimpArgs false

theorem mulS_cast {m n : Nat} (h : m * n ≤ 1000000) : IntKind.i64.wrap ((m : Int) * (n : Int)) = ((m * n : Nat) : Int) := by
  rw [← Int.natCast_mul]
  exact IntWalk.i64_in _ (by omega)

set_option maxRecDepth 100000 in
set_option maxHeartbeats 2000000 in
theorem l5Pair_calls (va vb : Value) (f g : List Nz) (r : Bool) (hr : Hid (pairB f g = r)) (w : World) (lo hi lo' hi' : Nat) (hh : hi ≤ w.heap.size) (hh' : hi' ≤ w.heap.size) (hva : NodesZ w lo hi va f) (hvb : NodesZ w lo' hi' vb g) :
    Calls Tryz.prog 55 #[.agg #[va], .agg #[vb]] w fun e w' => e = .returned (.bool r) ∧ Below w.heap.size w w' := by
  have HB0 := Lib.hid fun o o' => show Below w.heap.size w ((w.alloc o).alloc o') from ((Below.refl _ _).alloc (Nat.le_refl _) _).alloc (by simp) _
  obtain ⟨r1, h1⟩ : ∃ r, goodB f = r := ⟨_, rfl⟩
  obtain ⟨r2, h2⟩ : ∃ r, goodB g = r := ⟨_, rfl⟩
  have HR := Lib.hid (pairB_parts h1 h2 hr.out)
  have HLA : Hid (r1 = true → f.length ≤ 120) := Lib.hid (fun e => (good_parts (h1.trans e)).2.2.2.2.1)
  have HLB : Hid (r2 = true → g.length ≤ 120) := Lib.hid (fun e => (good_parts (h2.trans e)).2.2.2.2.1)
  have CA := Lib.hid fun (W : World) (hW : Below w.heap.size w W) => goodS_res va f r1 (Lib.hid h1) W lo hi (Nat.le_trans hh hW.size) (hva.below hW hh)
  have CB := Lib.hid fun (W : World) (hW : Below w.heap.size w W) => goodS_res vb g r2 (Lib.hid h2) W lo' hi' (Nat.le_trans hh' hW.size) (hvb.below hW hh')
  obtain ⟨aa, ca, rfl⟩ : ∃ ao c, va = .slice ao f.length c := by obtain ⟨ao, c, e, _⟩ := hva; exact ⟨ao, c, e⟩
  obtain ⟨ab, cb, rfl⟩ : ∃ ao c, vb = .slice ao g.length c := by obtain ⟨ao, c, e, _⟩ := hvb; exact ⟨ao, c, e⟩
  clear h1 h2 hr hva hvb
  go_enter Tryz.func55, Tryz.ntmps55
  go_wp2_with fail
  refine (CA.out _ (HB0.out _ _)).mono ?_
  rintro e w4 ⟨rfl, hb4⟩
  have k1 : w4.cell? ⟨w.heap.size, 0, none⟩ = some (.slice aa f.length ca) := (bcell hb4 _ _ (by simp; omega)).trans (by go_simp)
  have k2 : w4.cell? ⟨w.heap.size + 1, 0, none⟩ = some (.slice ab g.length cb) := (bcell hb4 _ _ (by simp)).trans (by go_simp)
  have HB4 := Lib.hid (Below.trans (HB0.out _ _) (hb4.mono (by simp; omega)))
  clear hb4 CA
  cases r1 with
  | false =>
    obtain rfl := HR.out
    go_wp2_with fail
    go_ret
    exact ⟨rfl, HB4.out⟩
  | true =>
    have b1 := block_of_cell k1
    have b2 := block_of_cell k2
    go_wp2_with fail
    refine (CB.out _ HB4.out).mono ?_
    rintro e w5 ⟨rfl, hb5⟩
    have k1 := (bcell hb5 _ _ b1).trans k1
    have k2 := (bcell hb5 _ _ b2).trans k2
    have HB5 := Lib.hid (HB4.out.trans (hb5.mono HB4.out.size))
    clear hb5 b1 b2
    cases r2 with
    | false =>
      obtain rfl := HR.out
      go_wp2_with fail
      go_ret
      exact ⟨rfl, HB5.out⟩
    | true =>
      have hla : f.length ≤ 120 := by have h := HLA.out; simpa using h
      have hlb : g.length ≤ 120 := by have h := HLB.out; simpa using h
      have hAB : f.length * g.length ≤ 120 * 120 := Nat.mul_le_mul hla hlb
      obtain ⟨n, hn⟩ : ∃ n : Nat, f.length * g.length = n := ⟨_, rfl⟩
      have HR2 : Hid (r = decide (n ≤ 1600)) := Lib.hid (by rw [HR.out, hn]; rfl)
      have hwm : IntKind.i64.wrap ((f.length : Int) * (g.length : Int)) = (n : Int) := by rw [mul_cast (by omega), hn]
      rw [hn] at hAB
      clear hn HR
      have hde : decide ((n : Int) ≤ 1600) = r := by rw [HR2.out]; exact decide_eq_decide.2 (by clear hwm; omega)
      go_wp2_with fail
      go_ret
      exact ⟨by first | rfl | exact ret_bool hde, HB5.out⟩

end
end

section
section
open Go.RowKit
set_option linter.unusedVariables false
set_option linter.unusedSimpArgs false

theorem nodeS_at {P : List Nd} {w : World} {lo hi : Nat} {ao : Option Addr} {c i : Nat} {nd : Nd} (h : NodesZ w lo hi (.slice ao P.length c) (P.map upN)) (hnd : P[i]? = some nd) :
    ∃ b off x1 y1 x2 y2, ao = some ⟨b, off, none⟩ ∧ w.cell? ⟨b, off + i * 2, none⟩ = some (.slice x1 nd.1.length y1) ∧ w.cell? ⟨b, off + i * 2 + 1, none⟩ = some (.slice x2 nd.2.length y2) ∧ IntsZ w lo hi (.slice x1 nd.1.length y1) (upL nd.1) ∧ IntsZ w lo hi (.slice x2 nd.2.length y2) (upL nd.2) := by
  obtain ⟨b, off, cc, v1, v2, e, hbh, p1, p2, i1, i2⟩ := nodes_atP h hnd
  obtain ⟨q1, q2, q3⟩ := slice_inj e
  obtain ⟨a1, d1, rfl, _⟩ := ints_lenP i1
  obtain ⟨a2, d2, rfl, _⟩ := ints_lenP i2
  exact ⟨b, off, a1, d1, a2, d2, q1, p1, p2, i1, i2⟩

theorem at_cell {base : Nat} {wr : World} {P : List Nd} {ga ca : Nat} {vn vb : Value} {vs : List (Value × Value)} (h : BkAt base wr P ga ca vn vb vs) {x : Nat} (hx : x < P.length) : wr.cell? ⟨ga, x, none⟩ = some (.int .i64 (((addF [] P).2.getD x 0 : Nat) : Int)) := by
  obtain ⟨z, hz⟩ := lt_get (l := (addF [] P).2) (i := x) (by rw [at_len]; exact hx)
  rw [World.ownsRow.cellAt h.own x (by omega), List.getElem?_map, hz, List.getD_eq_getElem?_getD, hz]
  rfl

end
end

section
section
open Go.RowKit
set_option linter.unusedVariables false
set_option linter.unusedSimpArgs false

theorem sumL_map (n i j : Nat) (a b : List Nat) (h : Nat → Nat) : (sumLP n i j a b).map h = a.map (fun o => h (o * n + j)) ++ b.map (fun o => h (i * n + o)) := by
  unfold sumLP
  rw [List.map_append, List.map_map, List.map_map]
  rfl

set_option maxRecDepth 100000 in
set_option maxHeartbeats 60000000 in
theorem l5Sum_calls (A B : List Nd) (aa ab : Option Addr) (ca cb : Nat) (w : World) (lo hi lo' hi' : Nat) (hh : hi ≤ w.heap.size) (hh' : hi' ≤ w.heap.size) (ha : NodesZ w lo hi (.slice aa A.length ca) (A.map upN)) (hb : NodesZ w lo' hi' (.slice ab B.length cb) (B.map upN))
    (hA : A.length ≤ 120) (hB : B.length ≤ 120) (pA : 0 < A.length) (pB : 0 < B.length) (uA : Under A) (uB : Under B) (sA : ∀ nd ∈ A, nd.1.length ≤ 24 ∧ nd.2.length ≤ 24) (sB : ∀ nd ∈ B, nd.1.length ≤ 24 ∧ nd.2.length ≤ 24) :
    Calls Tryz.prog 57 #[.agg #[.slice aa A.length ca], .agg #[.slice ab B.length cb]] w fun e w' => ∃ v, e = .returned (.agg #[v]) ∧ NodesZ w' w.heap.size w'.heap.size v ((formM (sumN A B)).map upN) ∧ Below w.heap.size w w' := by
  obtain ⟨iI, hiI, hzI0, hzI1, hzI2⟩ := info_parts infoIntA
  have HA := Lib.hid fun (W : World) (hW : Below w.heap.size w W) => ha.below hW hh
  have HB := Lib.hid fun (W : World) (hW : Below w.heap.size w W) => hb.below hW hh'
  have UA := Lib.hid uA
  have UB := Lib.hid uB
  have SA := Lib.hid sA
  have SB := Lib.hid sB
  have US := Lib.hid (sumN_under uA uB)
  have SL := Lib.hid (sumN_len A B)
  have SAT := Lib.hid fun (i j : Nat) (hi : i < A.length) (hj : j < B.length) => sumN_at hi hj
  have SSM := Lib.hid fun (i j : Nat) (hi : i < A.length) (hj : j < B.length) => sumAt_small sA sB hi hj
  have e0 : (((w.alloc (.cells #[.slice aa A.length ca] 26)).alloc (.cells #[.slice ab B.length cb] 26)).alloc (.cells #[.slice none 0 0] 26)).heap.size = w.heap.size + 3 := by simp
  have hst := BkAt.start (((w.alloc (.cells #[.slice aa A.length ca] 26)).alloc (.cells #[.slice ab B.length cb] 26)).alloc (.cells #[.slice none 0 0] 26))
  rw [e0] at hst
  have HST := Lib.hid hst
  have HB0 : Hid (Below w.heap.size w (((((w.alloc (.cells #[.slice aa A.length ca] 26)).alloc (.cells #[.slice ab B.length cb] 26)).alloc (.cells #[.slice none 0 0] 26)).alloc (.cells #[.slice none 0 0, .slice none 0 0] 105)).alloc (.cells #[] 3))) :=
    Lib.hid ((((((Below.refl _ _).alloc (Nat.le_refl _) _).alloc (by simp) _).alloc (by simp; omega) _).alloc (by simp; omega) _).alloc (by simp; omega) _)
  have hAB : A.length * B.length ≤ 120 * 120 := Nat.mul_le_mul hA hB
  clear ha hb uA uB sA sB hst e0
  go_enter Tryz.func57, Tryz.ntmps57
  go_wp2
  go_loopw [7, 8] (fun q t wr => ∃ (i p ga ca' : Nat) (vn vb : Value) (vs : List (Value × Value)), i ≤ A.length ∧ t = .int .i64 i ∧ q = .slice (some ⟨ga, 0, none⟩) p ca' ∧ Hid (p = i * B.length) ∧ Hid (BkAt (w.heap.size + 3) wr ((sumN A B).take p) ga ca' vn vb vs) ∧
      Hid (Below w.heap.size w wr) ∧ Hid (BoxAt wr (w.heap.size + 2) (.slice none 0 0)) ∧ wr.cell? ⟨w.heap.size, 0, none⟩ = some (.slice aa A.length ca) ∧ wr.cell? ⟨w.heap.size + 1, 0, none⟩ = some (.slice ab B.length cb)) (fun _ t _ => A.length - (intOf t).toNat)
  case atStart => exact ⟨0, 0, w.heap.size + 3 + 1, 0, _, _, _, Nat.zero_le _, rfl, rfl, Lib.hid (by omega), by rw [List.take_zero]; exact HST, HB0, Lib.hid ⟨by go_simp, by go_simp⟩, by go_simp, by go_simp⟩
  case round =>
    obtain ⟨i, p, ga, ca', vn, vb, vs, hi0, rfl, rfl, hp, hK, hbw, hx, kf, kg⟩ := hrel
    clear HST HB0
    by_cases hlt : i < A.length
    · have i0 : (0 : Int) ≤ i := by omega
      have i1 : (i : Int) < A.length := by omega
      obtain ⟨W0, hW0⟩ : ∃ W, W = wr := ⟨_, rfl⟩
      subst hW0
      have hpl : p ≤ 120 * 120 := by
        have h1 := hp.out
        have h2 : i * B.length ≤ A.length * B.length := Nat.mul_le_mul_right _ (by omega)
        omega
      go_wp2
      go_loopw [7, 9] (fun q t wr => ∃ (k p' ga ca' : Nat) (vn vb : Value) (vs : List (Value × Value)), k ≤ B.length ∧ t = .int .i64 k ∧ q = .slice (some ⟨ga, 0, none⟩) p' ca' ∧ Hid (p' = i * B.length + k) ∧ Hid (BkAt (w.heap.size + 3) wr ((sumN A B).take p') ga ca' vn vb vs) ∧
          Hid (RowKit.Below w.heap.size w wr) ∧ Hid (BoxAt wr (w.heap.size + 2) (.slice none 0 0)) ∧ wr.cell? ⟨w.heap.size, 0, none⟩ = some (.slice aa A.length ca) ∧ wr.cell? ⟨w.heap.size + 1, 0, none⟩ = some (.slice ab B.length cb)) (fun _ t _ => B.length - (intOf t).toNat)
      case atStart => exact ⟨0, p, ga, ca', vn, vb, vs, Nat.zero_le _, rfl, rfl, Lib.hid (by have := hp.out; omega), hK, hbw, hx, kf, kg⟩
      case round =>
        clear hp hK hbw hx kf kg hpl
        obtain ⟨k, p', ga, ca', vn, vb, vs, hk, rfl, rfl, hp, hK, hbw, hx, kf, kg⟩ := hrel
        by_cases hlt2 : k < B.length
        · have k0 : (0 : Int) ≤ k := by omega
          have k1 : (k : Int) < B.length := by omega
          have hpl : p' < A.length * B.length := by rw [hp.out]; exact pair_lt hlt hlt2
          obtain ⟨na, hna⟩ := lt_get hlt
          obtain ⟨nb, hnb⟩ := lt_get hlt2
          obtain ⟨b1, o1, x1, y1, x2, y2, q1, c1, c2, I1, I2⟩ := nodeS_at (HA.out wr hbw.out) hna
          obtain ⟨b2, o2, x3, y3, x4, y4, q2, c3, c4, I3, I4⟩ := nodeS_at (HB.out wr hbw.out) hnb
          have hlA := UA.out i na hna
          have hlB := UB.out k nb hnb
          have hsA := SA.out na (List.mem_of_getElem? hna)
          have hsB := SB.out nb (List.mem_of_getElem? hnb)
          have hnd := SAT.out i k hlt hlt2
          have hsm := SSM.out i k hlt hlt2
          have hse : sumAt A B i k = (sumLP B.length i k na.1 nb.1, sumLP B.length i k na.2 nb.2) := by unfold sumAt; rw [getD_at hna, getD_at hnb]
          rw [hse, ← hp.out] at hnd
          rw [hse] at hsm
          have hbs := hbw.out.size
          have hks := hK.out.size
          have htl : ((sumN A B).take p').length = p' := by rw [List.length_take, SL.out]; omega
          obtain ⟨P, hP⟩ : ∃ P, (sumN A B).take p' = P := ⟨_, rfl⟩
          have HTS := Lib.hid (take_snoc' hnd)
          have HTU := Lib.hid (under_take US.out p')
          rw [hP] at hK htl HTS HTU
          have HTL := Lib.hid htl
          obtain ⟨AT, hAT⟩ : ∃ f : Nat → Nat, (fun x => (addF [] P).2.getD x 0) = f := ⟨_, rfl⟩
          have HAT := Lib.hid fun (W : World) (hW : RowKit.Below wr.heap.size wr W) (x : Nat) (hx : x < p') => show W.cell? ⟨ga, x, none⟩ = some (.int .i64 ((AT x : Nat) : Int)) from by
            rw [← hAT]
            exact at_cell (hK.out.below hW) (by rw [htl]; exact hx)
          have HAE := Lib.hid hAT
          have HNA := Lib.hid hna
          have HNB := Lib.hid hnb
          have J1 := Lib.hid I1
          have J2 := Lib.hid I2
          have J3 := Lib.hid I3
          have J4 := Lib.hid I4
          have HlA := Lib.hid hlA
          have HlB := Lib.hid hlB
          have Hsm := Lib.hid hsm
          have HND := Lib.hid hnd
          have hga := hK.out.lt
          have HNF := Lib.hid hK.out.nf
          have bl1 := block_of_cell c1
          have bl2 := block_of_cell c2
          have bl3 := block_of_cell c3
          have bl4 := block_of_cell c4
          have blf := block_of_cell kf
          have blg := block_of_cell kg
          obtain ⟨W1, hW1⟩ : ∃ W, W = wr := ⟨_, rfl⟩
          subst hW1
          subst q1 q2
          clear hna hnb I1 I2 I3 I4 hlA hlB hnd hsm hse htl hP hAT
          have hz1 : (W1.alloc (.cells #[] 3)).heap.size = W1.heap.size + 1 := by simp
          have hla : RowKit.Below (W1.alloc (.cells #[] 3)).heap.size (W1.alloc (.cells #[] 3)) ((W1.alloc (.cells #[] 3)).alloc (.cells #[] 3)) := (RowKit.Below.refl _ _).alloc (Nat.le_refl _) _
          have HBE : Hid (RowKit.Below W1.heap.size W1 ((W1.alloc (.cells #[] 3)).alloc (.cells #[] 3))) := Lib.hid (((RowKit.Below.refl _ _).alloc (Nat.le_refl _) _).alloc (by simp) _)
          have HLE : Hid (OwnI ((W1.alloc (.cells #[] 3)).alloc (.cells #[] 3)) W1.heap.size (.slice (some ⟨W1.heap.size, 0, none⟩) 0 0) (upL (List.map (fun o => AT (o * B.length + k)) (List.take 0 na.1)))) := Lib.hid (by
            rw [List.take_zero]
            exact OwnI.below (World.ownsRow_lit (base := W1.heap.size) (e := 3) (size := 1) W1 #[] 0 (Nat.le_refl _) (by unfold maxLen; omega) rfl) hla)
          have HRE : Hid (OwnI ((W1.alloc (.cells #[] 3)).alloc (.cells #[] 3)) W1.heap.size (.slice (some ⟨W1.heap.size + 1, 0, none⟩) 0 0) []) := Lib.hid (by
            have h := World.ownsRow_lit (base := W1.heap.size) (e := 3) (size := 1) (W1.alloc (.cells #[] 3)) #[] 0 (by simp) (by unfold maxLen; omega) rfl
            rw [hz1] at h
            exact h)
          have HAPE : Hid (Apart (.slice (some ⟨W1.heap.size + 1, 0, none⟩) 0 0) (.slice (some ⟨W1.heap.size, 0, none⟩) 0 0)) := Lib.hid (fun g e1 e2 => by have := own_eqp e1; have := own_eqp e2; omega)
          have HSE : W1.heap.size + 2 ≤ ((W1.alloc (.cells #[] 3)).alloc (.cells #[] 3)).heap.size := by simp
          clear hla hz1
          go_wp2
          go_loopw [10, 12] (fun v t wr => ∃ (m len : Nat) (a : Option Addr) (c : Nat), m ≤ na.1.length ∧ t = .int .i64 m ∧ v = .slice a len c ∧ Hid (len = ((na.1.take m).map (fun o => AT (o * B.length + k))).length) ∧ Hid (OwnI wr W1.heap.size (.slice a len c) (upL ((na.1.take m).map (fun o => AT (o * B.length + k))))) ∧ Hid (RowKit.Below W1.heap.size W1 wr) ∧
            Hid (OwnI wr W1.heap.size (.slice (some ⟨W1.heap.size + 1, 0, none⟩) 0 0) []) ∧ Hid (Apart (.slice (some ⟨W1.heap.size + 1, 0, none⟩) 0 0) (.slice a len c)) ∧ W1.heap.size + 2 ≤ wr.heap.size) (fun _ t _ => na.1.length - (intOf t).toNat)
          case atStart => exact ⟨0, 0, some ⟨W1.heap.size, 0, none⟩, 0, Nat.zero_le _, rfl, rfl, Lib.hid (by simp), HLE, HBE, HRE, HAPE, HSE⟩
          case round =>
            obtain ⟨m, len, a, c, hm, rfl, rfl, hl, ho, hb1, hou, hap, hsz⟩ := hrel
            have kf' := (bcell hb1.out _ _ blf).trans kf
            have kg' := (bcell hb1.out _ _ blg).trans kg
            have cc' := (bcell hb1.out _ _ bl1).trans c1
            by_cases hlt3 : m < na.1.length
            · obtain ⟨o, hox⟩ := lt_get hlt3
              have hob := HlA.out o (Or.inl (List.mem_of_getElem? hox))
              obtain ⟨bx, ox, hxa, _, hxc⟩ := ints_atP (J1.out.below hb1.out (Nat.le_trans hh hbs)) hox
              subst hxa
              have g5 : W1.heap.size ≤ wr.heap.size + 1 := by omega
              obtain ⟨q, hq⟩ : ∃ q, o * B.length = q := ⟨_, rfl⟩
              have hidx : q + k < p' := by
                rw [hp.out, ← hq]
                have h5 : (o + 1) * B.length ≤ i * B.length := Nat.mul_le_mul_right _ (by omega)
                rw [Nat.add_mul] at h5
                omega
              have s0 : (0 : Int) ≤ (q : Int) + (k : Int) := by omega
              have s1 : (q : Int) + (k : Int) < p' := by omega
              have s2 : ((q : Int) + (k : Int)).toNat = q + k := by omega
              have hat := HAT.out wr hb1.out (q + k) hidx
              obtain ⟨z, hz⟩ : ∃ z, AT (q + k) = z := ⟨_, rfl⟩
              rw [hz] at hat
              have HZ : Hid ((fun o => AT (o * B.length + k)) o = z) := Lib.hid (by rw [← hz, ← hq])
              have m0 : (0 : Int) ≤ m := by omega
              have m1 : (m : Int) < na.1.length := by omega
              have o0 : (0 : Int) ≤ o := by omega
              have o1' : (o : Int) ≤ 120 := by omega
              have hll : (upL ((na.1.take m).map (fun o => AT (o * B.length + k)))).length ≤ 60 := by rw [upL_len]; simp only [List.length_append, List.length_map, List.length_take]; omega
              obtain ⟨PL, hPL⟩ : ∃ l, (na.1.take m).map (fun o => AT (o * B.length + k)) = l := ⟨_, rfl⟩
              rw [hPL] at ho hll
              have g3 : (upL PL).length + 1 ≤ maxLen := by unfold maxLen; omega
              have g4 : ((upL PL).length + 1) * 8 ≤ 140737488355328 := by omega
              have s3 : IntKind.i64.wrap ((q : Int) + (k : Int)) = (q : Int) + (k : Int) := IntWalk.i64_in _ (by omega)
              have hwm : IntKind.i64.wrap ((o : Int) * (B.length : Int)) = (q : Int) := by rw [← hq]; exact mulS_cast (Nat.le_trans (Nat.mul_le_mul (show o ≤ 120 by omega) hB) (by omega))
              have HPL := Lib.hid hPL
              have HOX := Lib.hid hox
              have HQ := Lib.hid hq
              clear hox hq hz hPL
              go_wp2_with (at_builtin; refine wpList_append_own_at _ rfl _ _ 65 rfl W1.heap.size 3 iI (.int .i64 0) 1 8 Tryz.underlying65 hiI hzI0 hzI1 hzI2 rfl (by decide) _ _ _ rfl (World.ownsRow.alloc ho.out _) ⟨wr.heap.size, 0, none⟩ 1 1 [.int .i64 (z : Int)] rfl rfl ?ea1 ?ea2 ?ea3 ?ea4 ?ea5 ?_)
              try (case ea1 => exact World.news_of_block (heap_alloc_new _ _))
              try (case ea2 => first | rfl | (intro u hu; simp at hu; subst hu; rfl))
              try (case ea3 => exact g3)
              try (case ea4 => exact g4)
              try (case ea5 => simp only [World.size_alloc]; exact g5)
              try (case ea5 => simpa using g5)
              intro v6 w6 hown6 hgrow6 hnil6 hat6
              clear hwm s3 s0 s1 s2
              have hal : RowKit.Below wr.heap.size wr (wr.alloc (.cells #[.int .i64 (z : Int)] 3)) := (RowKit.Below.refl _ _).alloc (Nat.le_refl _) _
              have hol := ho.out.lt
              have O6 : OwnI w6 W1.heap.size v6 (upL ((na.1.take (m + 1)).map (fun o => AT (o * B.length + k)))) := by
                have e : (na.1.take (m + 1)).map (fun o => AT (o * B.length + k)) = PL ++ [z] := by
                  rw [take_snoc' HOX.out, List.map_append, ← HPL.out]
                  rw [show [o].map (fun o => AT (o * B.length + k)) = [z] from by rw [List.map_singleton, HZ.out]]
                  try (first | rfl | rw [← List.append_assoc])
                rw [e, upL_snoc]
                unfold OwnI
                rw [List.map_append, List.length_append]
                exact hown6
              obtain ⟨a6, c6, hv6⟩ := O6.form
              have hm6 : (upL ((na.1.take (m + 1)).map (fun o => AT (o * B.length + k)))).length = len + 1 := by
                rw [upL_len]
                have := hl.out
                simp only [List.length_append, List.length_map, List.length_take] at this ⊢
                omega
              rw [hm6] at hv6
              subst hv6
              have HO6 := Lib.hid O6
              have ho6 : Only wr w6 (fun b => (Value.slice a len c).ownBlock = some b) := (Only.of_below (F := fun b => (Value.slice a len c).ownBlock = some b) hal).trans (Only.of_grown (F := fun b => (Value.slice a len c).ownBlock = some b) hgrow6 (fun g e => e)) (fun _ _ h => h)
              have HB6 := Lib.hid (hb1.out.trans (ho6.below (by omega) (fun g h => (hol g h).1)))
              have HU6 := Lib.hid (hou.out.only ho6 (fun g e1 e2 => hap.out g e1 e2))
              have HA6 : Hid (Apart (.slice (some ⟨W1.heap.size + 1, 0, none⟩) 0 0) (.slice a6 (len + 1) c6)) := Lib.hid (fun g e1 e2 => by
                rcases hat6 with h | h
                · exact hap.out g e1 (h ▸ e2)
                · rw [h] at e2
                  injection e2 with e2
                  have := hou.out.lt g e1
                  try simp at e2
                  omega)
              have hsz6 : W1.heap.size + 2 ≤ w6.heap.size := by have := ho6.size; omega
              have HM6 : Hid (len + 1 = ((na.1.take (m + 1)).map (fun o => AT (o * B.length + k))).length) := Lib.hid (by rw [← hm6, upL_len])
              clear hown6 hgrow6 hnil6 hat6 hal hol O6 hm6 ho6 ho hb1 hl hou hap hll hat hxc kf' kg' cc'
              go_wp2
              go_roundw
              case rel => exact ⟨m + 1, len + 1, a6, c6, by omega, by go_num, rfl, HM6, HO6, HB6, HU6, HA6, hsz6⟩
              case measure => first | (simp [intOf]; done) | (simp [intOf]; omega)
            · have hme : m = na.1.length := by omega
              subst hme
              rw [List.take_length] at ho hl
              go_wp2
              go_loopw [10, 13] (fun v t wr => ∃ (m len : Nat) (a : Option Addr) (c : Nat), m ≤ nb.1.length ∧ t = .int .i64 m ∧ v = .slice a len c ∧ Hid (len = (na.1.map (fun o => AT (o * B.length + k)) ++ (nb.1.take m).map (fun o => AT (i * B.length + o))).length) ∧ Hid (OwnI wr W1.heap.size (.slice a len c) (upL (na.1.map (fun o => AT (o * B.length + k)) ++ (nb.1.take m).map (fun o => AT (i * B.length + o))))) ∧ Hid (RowKit.Below W1.heap.size W1 wr) ∧
                Hid (OwnI wr W1.heap.size (.slice (some ⟨W1.heap.size + 1, 0, none⟩) 0 0) []) ∧ Hid (Apart (.slice (some ⟨W1.heap.size + 1, 0, none⟩) 0 0) (.slice a len c)) ∧ W1.heap.size + 2 ≤ wr.heap.size) (fun _ t _ => nb.1.length - (intOf t).toNat)
              case atStart => exact ⟨0, len, a, c, Nat.zero_le _, rfl, rfl, Lib.hid (by rw [List.take_zero, List.map_nil, List.append_nil]; exact hl.out), Lib.hid (by rw [List.take_zero, List.map_nil, List.append_nil]; exact ho.out), hb1, hou, hap, hsz⟩
              case round =>
                obtain ⟨m, len, a, c, hm, rfl, rfl, hl, ho, hb1, hou, hap, hsz⟩ := hrel
                have kf' := (bcell hb1.out _ _ blf).trans kf
                have kg' := (bcell hb1.out _ _ blg).trans kg
                have cc' := (bcell hb1.out _ _ bl3).trans c3
                by_cases hlt3 : m < nb.1.length
                · obtain ⟨o, hox⟩ := lt_get hlt3
                  have hob := HlB.out o (Or.inl (List.mem_of_getElem? hox))
                  obtain ⟨bx, ox, hxa, _, hxc⟩ := ints_atP (J3.out.below hb1.out (Nat.le_trans hh' hbs)) hox
                  subst hxa
                  have g5 : W1.heap.size ≤ wr.heap.size + 1 := by omega
                  obtain ⟨q, hq⟩ : ∃ q, i * B.length = q := ⟨_, rfl⟩
                  have hidx : q + o < p' := by
                    rw [hp.out, ← hq]
                    omega
                  have s0 : (0 : Int) ≤ (q : Int) + (o : Int) := by omega
                  have s1 : (q : Int) + (o : Int) < p' := by omega
                  have s2 : ((q : Int) + (o : Int)).toNat = q + o := by omega
                  have hat := HAT.out wr hb1.out (q + o) hidx
                  obtain ⟨z, hz⟩ : ∃ z, AT (q + o) = z := ⟨_, rfl⟩
                  rw [hz] at hat
                  have HZ : Hid ((fun o => AT (i * B.length + o)) o = z) := Lib.hid (by rw [← hz, ← hq])
                  have m0 : (0 : Int) ≤ m := by omega
                  have m1 : (m : Int) < nb.1.length := by omega
                  have o0 : (0 : Int) ≤ o := by omega
                  have o1' : (o : Int) ≤ 120 := by omega
                  have hll : (upL (na.1.map (fun o => AT (o * B.length + k)) ++ (nb.1.take m).map (fun o => AT (i * B.length + o)))).length ≤ 60 := by rw [upL_len]; simp only [List.length_append, List.length_map, List.length_take]; omega
                  obtain ⟨PL, hPL⟩ : ∃ l, na.1.map (fun o => AT (o * B.length + k)) ++ (nb.1.take m).map (fun o => AT (i * B.length + o)) = l := ⟨_, rfl⟩
                  rw [hPL] at ho hll
                  have g3 : (upL PL).length + 1 ≤ maxLen := by unfold maxLen; omega
                  have g4 : ((upL PL).length + 1) * 8 ≤ 140737488355328 := by omega
                  have s3 : IntKind.i64.wrap ((q : Int) + (o : Int)) = (q : Int) + (o : Int) := IntWalk.i64_in _ (by omega)
                  have hwm : IntKind.i64.wrap ((i : Int) * (B.length : Int)) = (q : Int) := by rw [← hq]; exact mulS_cast (Nat.le_trans (Nat.mul_le_mul (show i ≤ 120 by omega) hB) (by omega))
                  have HPL := Lib.hid hPL
                  have HOX := Lib.hid hox
                  have HQ := Lib.hid hq
                  clear hox hq hz hPL
                  go_wp2_with (at_builtin; refine wpList_append_own_at _ rfl _ _ 65 rfl W1.heap.size 3 iI (.int .i64 0) 1 8 Tryz.underlying65 hiI hzI0 hzI1 hzI2 rfl (by decide) _ _ _ rfl (World.ownsRow.alloc ho.out _) ⟨wr.heap.size, 0, none⟩ 1 1 [.int .i64 (z : Int)] rfl rfl ?eb1 ?eb2 ?eb3 ?eb4 ?eb5 ?_)
                  try (case eb1 => exact World.news_of_block (heap_alloc_new _ _))
                  try (case eb2 => first | rfl | (intro u hu; simp at hu; subst hu; rfl))
                  try (case eb3 => exact g3)
                  try (case eb4 => exact g4)
                  try (case eb5 => simp only [World.size_alloc]; exact g5)
                  try (case eb5 => simpa using g5)
                  intro v6 w6 hown6 hgrow6 hnil6 hat6
                  clear hwm s3 s0 s1 s2
                  have hal : RowKit.Below wr.heap.size wr (wr.alloc (.cells #[.int .i64 (z : Int)] 3)) := (RowKit.Below.refl _ _).alloc (Nat.le_refl _) _
                  have hol := ho.out.lt
                  have O6 : OwnI w6 W1.heap.size v6 (upL (na.1.map (fun o => AT (o * B.length + k)) ++ (nb.1.take (m + 1)).map (fun o => AT (i * B.length + o)))) := by
                    have e : na.1.map (fun o => AT (o * B.length + k)) ++ (nb.1.take (m + 1)).map (fun o => AT (i * B.length + o)) = PL ++ [z] := by
                      rw [take_snoc' HOX.out, List.map_append, ← HPL.out]
                      rw [show [o].map (fun o => AT (i * B.length + o)) = [z] from by rw [List.map_singleton, HZ.out]]
                      try (first | rfl | rw [← List.append_assoc])
                    rw [e, upL_snoc]
                    unfold OwnI
                    rw [List.map_append, List.length_append]
                    exact hown6
                  obtain ⟨a6, c6, hv6⟩ := O6.form
                  have hm6 : (upL (na.1.map (fun o => AT (o * B.length + k)) ++ (nb.1.take (m + 1)).map (fun o => AT (i * B.length + o)))).length = len + 1 := by
                    rw [upL_len]
                    have := hl.out
                    simp only [List.length_append, List.length_map, List.length_take] at this ⊢
                    omega
                  rw [hm6] at hv6
                  subst hv6
                  have HO6 := Lib.hid O6
                  have ho6 : Only wr w6 (fun b => (Value.slice a len c).ownBlock = some b) := (Only.of_below (F := fun b => (Value.slice a len c).ownBlock = some b) hal).trans (Only.of_grown (F := fun b => (Value.slice a len c).ownBlock = some b) hgrow6 (fun g e => e)) (fun _ _ h => h)
                  have HB6 := Lib.hid (hb1.out.trans (ho6.below (by omega) (fun g h => (hol g h).1)))
                  have HU6 := Lib.hid (hou.out.only ho6 (fun g e1 e2 => hap.out g e1 e2))
                  have HA6 : Hid (Apart (.slice (some ⟨W1.heap.size + 1, 0, none⟩) 0 0) (.slice a6 (len + 1) c6)) := Lib.hid (fun g e1 e2 => by
                    rcases hat6 with h | h
                    · exact hap.out g e1 (h ▸ e2)
                    · rw [h] at e2
                      injection e2 with e2
                      have := hou.out.lt g e1
                      try simp at e2
                      omega)
                  have hsz6 : W1.heap.size + 2 ≤ w6.heap.size := by have := ho6.size; omega
                  have HM6 : Hid (len + 1 = (na.1.map (fun o => AT (o * B.length + k)) ++ (nb.1.take (m + 1)).map (fun o => AT (i * B.length + o))).length) := Lib.hid (by rw [← hm6, upL_len])
                  clear hown6 hgrow6 hnil6 hat6 hal hol O6 hm6 ho6 ho hb1 hl hou hap hll hat hxc kf' kg' cc'
                  go_wp2
                  go_roundw
                  case rel => exact ⟨m + 1, len + 1, a6, c6, by omega, by go_num, rfl, HM6, HO6, HB6, HU6, HA6, hsz6⟩
                  case measure => first | (simp [intOf]; done) | (simp [intOf]; omega)
                · have hme : m = nb.1.length := by omega
                  subst hme
                  rw [List.take_length] at ho hl
                  obtain ⟨aL, ea⟩ : ∃ x, x = a := ⟨_, rfl⟩
                  obtain ⟨lenL, el⟩ : ∃ x, x = len := ⟨_, rfl⟩
                  obtain ⟨cL, ec⟩ : ∃ x, x = c := ⟨_, rfl⟩
                  subst ea
                  subst el
                  subst ec
                  have HLL := hl
                  go_wp2
                  go_loopw [11, 14] (fun v t wr => ∃ (m len : Nat) (a : Option Addr) (c : Nat), m ≤ na.2.length ∧ t = .int .i64 m ∧ v = .slice a len c ∧ Hid (len = ((na.2.take m).map (fun o => AT (o * B.length + k))).length) ∧ Hid (OwnI wr W1.heap.size (.slice a len c) (upL ((na.2.take m).map (fun o => AT (o * B.length + k))))) ∧ Hid (RowKit.Below W1.heap.size W1 wr) ∧
                    Hid (OwnI wr W1.heap.size (.slice aL lenL cL) (upL (na.1.map (fun o => AT (o * B.length + k)) ++ nb.1.map (fun o => AT (i * B.length + o))))) ∧ Hid (Apart (.slice aL lenL cL) (.slice a len c)) ∧ W1.heap.size + 2 ≤ wr.heap.size) (fun _ t _ => na.2.length - (intOf t).toNat)
                  case atStart => exact ⟨0, 0, some ⟨W1.heap.size + 1, 0, none⟩, 0, Nat.zero_le _, rfl, rfl, Lib.hid (by simp), hou, hb1, ho, Lib.hid hap.out.symm, hsz⟩
                  case round =>
                    obtain ⟨m, len, a, c, hm, rfl, rfl, hl, ho, hb1, hou, hap, hsz⟩ := hrel
                    have kf' := (bcell hb1.out _ _ blf).trans kf
                    have kg' := (bcell hb1.out _ _ blg).trans kg
                    have cc' := (bcell hb1.out _ _ bl2).trans c2
                    by_cases hlt3 : m < na.2.length
                    · obtain ⟨o, hox⟩ := lt_get hlt3
                      have hob := HlA.out o (Or.inr (List.mem_of_getElem? hox))
                      obtain ⟨bx, ox, hxa, _, hxc⟩ := ints_atP (J2.out.below hb1.out (Nat.le_trans hh hbs)) hox
                      subst hxa
                      have g5 : W1.heap.size ≤ wr.heap.size + 1 := by omega
                      obtain ⟨q, hq⟩ : ∃ q, o * B.length = q := ⟨_, rfl⟩
                      have hidx : q + k < p' := by
                        rw [hp.out, ← hq]
                        have h5 : (o + 1) * B.length ≤ i * B.length := Nat.mul_le_mul_right _ (by omega)
                        rw [Nat.add_mul] at h5
                        omega
                      have s0 : (0 : Int) ≤ (q : Int) + (k : Int) := by omega
                      have s1 : (q : Int) + (k : Int) < p' := by omega
                      have s2 : ((q : Int) + (k : Int)).toNat = q + k := by omega
                      have hat := HAT.out wr hb1.out (q + k) hidx
                      obtain ⟨z, hz⟩ : ∃ z, AT (q + k) = z := ⟨_, rfl⟩
                      rw [hz] at hat
                      have HZ : Hid ((fun o => AT (o * B.length + k)) o = z) := Lib.hid (by rw [← hz, ← hq])
                      have m0 : (0 : Int) ≤ m := by omega
                      have m1 : (m : Int) < na.2.length := by omega
                      have o0 : (0 : Int) ≤ o := by omega
                      have o1' : (o : Int) ≤ 120 := by omega
                      have hll : (upL ((na.2.take m).map (fun o => AT (o * B.length + k)))).length ≤ 60 := by rw [upL_len]; simp only [List.length_append, List.length_map, List.length_take]; omega
                      obtain ⟨PL, hPL⟩ : ∃ l, (na.2.take m).map (fun o => AT (o * B.length + k)) = l := ⟨_, rfl⟩
                      rw [hPL] at ho hll
                      have g3 : (upL PL).length + 1 ≤ maxLen := by unfold maxLen; omega
                      have g4 : ((upL PL).length + 1) * 8 ≤ 140737488355328 := by omega
                      have s3 : IntKind.i64.wrap ((q : Int) + (k : Int)) = (q : Int) + (k : Int) := IntWalk.i64_in _ (by omega)
                      have hwm : IntKind.i64.wrap ((o : Int) * (B.length : Int)) = (q : Int) := by rw [← hq]; exact mulS_cast (Nat.le_trans (Nat.mul_le_mul (show o ≤ 120 by omega) hB) (by omega))
                      have HPL := Lib.hid hPL
                      have HOX := Lib.hid hox
                      have HQ := Lib.hid hq
                      clear hox hq hz hPL
                      go_wp2_with (at_builtin; refine wpList_append_own_at _ rfl _ _ 65 rfl W1.heap.size 3 iI (.int .i64 0) 1 8 Tryz.underlying65 hiI hzI0 hzI1 hzI2 rfl (by decide) _ _ _ rfl (World.ownsRow.alloc ho.out _) ⟨wr.heap.size, 0, none⟩ 1 1 [.int .i64 (z : Int)] rfl rfl ?ec1 ?ec2 ?ec3 ?ec4 ?ec5 ?_)
                      try (case ec1 => exact World.news_of_block (heap_alloc_new _ _))
                      try (case ec2 => first | rfl | (intro u hu; simp at hu; subst hu; rfl))
                      try (case ec3 => exact g3)
                      try (case ec4 => exact g4)
                      try (case ec5 => simp only [World.size_alloc]; exact g5)
                      try (case ec5 => simpa using g5)
                      intro v6 w6 hown6 hgrow6 hnil6 hat6
                      clear hwm s3 s0 s1 s2
                      have hal : RowKit.Below wr.heap.size wr (wr.alloc (.cells #[.int .i64 (z : Int)] 3)) := (RowKit.Below.refl _ _).alloc (Nat.le_refl _) _
                      have hol := ho.out.lt
                      have O6 : OwnI w6 W1.heap.size v6 (upL ((na.2.take (m + 1)).map (fun o => AT (o * B.length + k)))) := by
                        have e : (na.2.take (m + 1)).map (fun o => AT (o * B.length + k)) = PL ++ [z] := by
                          rw [take_snoc' HOX.out, List.map_append, ← HPL.out]
                          rw [show [o].map (fun o => AT (o * B.length + k)) = [z] from by rw [List.map_singleton, HZ.out]]
                          try (first | rfl | rw [← List.append_assoc])
                        rw [e, upL_snoc]
                        unfold OwnI
                        rw [List.map_append, List.length_append]
                        exact hown6
                      obtain ⟨a6, c6, hv6⟩ := O6.form
                      have hm6 : (upL ((na.2.take (m + 1)).map (fun o => AT (o * B.length + k)))).length = len + 1 := by
                        rw [upL_len]
                        have := hl.out
                        simp only [List.length_append, List.length_map, List.length_take] at this ⊢
                        omega
                      rw [hm6] at hv6
                      subst hv6
                      have HO6 := Lib.hid O6
                      have ho6 : Only wr w6 (fun b => (Value.slice a len c).ownBlock = some b) := (Only.of_below (F := fun b => (Value.slice a len c).ownBlock = some b) hal).trans (Only.of_grown (F := fun b => (Value.slice a len c).ownBlock = some b) hgrow6 (fun g e => e)) (fun _ _ h => h)
                      have HB6 := Lib.hid (hb1.out.trans (ho6.below (by omega) (fun g h => (hol g h).1)))
                      have HU6 := Lib.hid (hou.out.only ho6 (fun g e1 e2 => hap.out g e1 e2))
                      have HA6 : Hid (Apart (.slice aL lenL cL) (.slice a6 (len + 1) c6)) := Lib.hid (fun g e1 e2 => by
                        rcases hat6 with h | h
                        · exact hap.out g e1 (h ▸ e2)
                        · rw [h] at e2
                          injection e2 with e2
                          have := hou.out.lt g e1
                          try simp at e2
                          omega)
                      have hsz6 : W1.heap.size + 2 ≤ w6.heap.size := by have := ho6.size; omega
                      have HM6 : Hid (len + 1 = ((na.2.take (m + 1)).map (fun o => AT (o * B.length + k))).length) := Lib.hid (by rw [← hm6, upL_len])
                      clear hown6 hgrow6 hnil6 hat6 hal hol O6 hm6 ho6 ho hb1 hl hou hap hll hat hxc kf' kg' cc'
                      go_wp2
                      go_roundw
                      case rel => exact ⟨m + 1, len + 1, a6, c6, by omega, by go_num, rfl, HM6, HO6, HB6, HU6, HA6, hsz6⟩
                      case measure => first | (simp [intOf]; done) | (simp [intOf]; omega)
                    · have hme : m = na.2.length := by omega
                      subst hme
                      rw [List.take_length] at ho hl
                      go_wp2
                      go_loopw [11, 15] (fun v t wr => ∃ (m len : Nat) (a : Option Addr) (c : Nat), m ≤ nb.2.length ∧ t = .int .i64 m ∧ v = .slice a len c ∧ Hid (len = (na.2.map (fun o => AT (o * B.length + k)) ++ (nb.2.take m).map (fun o => AT (i * B.length + o))).length) ∧ Hid (OwnI wr W1.heap.size (.slice a len c) (upL (na.2.map (fun o => AT (o * B.length + k)) ++ (nb.2.take m).map (fun o => AT (i * B.length + o))))) ∧ Hid (RowKit.Below W1.heap.size W1 wr) ∧
                        Hid (OwnI wr W1.heap.size (.slice aL lenL cL) (upL (na.1.map (fun o => AT (o * B.length + k)) ++ nb.1.map (fun o => AT (i * B.length + o))))) ∧ Hid (Apart (.slice aL lenL cL) (.slice a len c)) ∧ W1.heap.size + 2 ≤ wr.heap.size) (fun _ t _ => nb.2.length - (intOf t).toNat)
                      case atStart => exact ⟨0, len, a, c, Nat.zero_le _, rfl, rfl, Lib.hid (by rw [List.take_zero, List.map_nil, List.append_nil]; exact hl.out), Lib.hid (by rw [List.take_zero, List.map_nil, List.append_nil]; exact ho.out), hb1, hou, hap, hsz⟩
                      case round =>
                        obtain ⟨m, len, a, c, hm, rfl, rfl, hl, ho, hb1, hou, hap, hsz⟩ := hrel
                        have kf' := (bcell hb1.out _ _ blf).trans kf
                        have kg' := (bcell hb1.out _ _ blg).trans kg
                        have cc' := (bcell hb1.out _ _ bl4).trans c4
                        by_cases hlt3 : m < nb.2.length
                        · obtain ⟨o, hox⟩ := lt_get hlt3
                          have hob := HlB.out o (Or.inr (List.mem_of_getElem? hox))
                          obtain ⟨bx, ox, hxa, _, hxc⟩ := ints_atP (J4.out.below hb1.out (Nat.le_trans hh' hbs)) hox
                          subst hxa
                          have g5 : W1.heap.size ≤ wr.heap.size + 1 := by omega
                          obtain ⟨q, hq⟩ : ∃ q, i * B.length = q := ⟨_, rfl⟩
                          have hidx : q + o < p' := by
                            rw [hp.out, ← hq]
                            omega
                          have s0 : (0 : Int) ≤ (q : Int) + (o : Int) := by omega
                          have s1 : (q : Int) + (o : Int) < p' := by omega
                          have s2 : ((q : Int) + (o : Int)).toNat = q + o := by omega
                          have hat := HAT.out wr hb1.out (q + o) hidx
                          obtain ⟨z, hz⟩ : ∃ z, AT (q + o) = z := ⟨_, rfl⟩
                          rw [hz] at hat
                          have HZ : Hid ((fun o => AT (i * B.length + o)) o = z) := Lib.hid (by rw [← hz, ← hq])
                          have m0 : (0 : Int) ≤ m := by omega
                          have m1 : (m : Int) < nb.2.length := by omega
                          have o0 : (0 : Int) ≤ o := by omega
                          have o1' : (o : Int) ≤ 120 := by omega
                          have hll : (upL (na.2.map (fun o => AT (o * B.length + k)) ++ (nb.2.take m).map (fun o => AT (i * B.length + o)))).length ≤ 60 := by rw [upL_len]; simp only [List.length_append, List.length_map, List.length_take]; omega
                          obtain ⟨PL, hPL⟩ : ∃ l, na.2.map (fun o => AT (o * B.length + k)) ++ (nb.2.take m).map (fun o => AT (i * B.length + o)) = l := ⟨_, rfl⟩
                          rw [hPL] at ho hll
                          have g3 : (upL PL).length + 1 ≤ maxLen := by unfold maxLen; omega
                          have g4 : ((upL PL).length + 1) * 8 ≤ 140737488355328 := by omega
                          have s3 : IntKind.i64.wrap ((q : Int) + (o : Int)) = (q : Int) + (o : Int) := IntWalk.i64_in _ (by omega)
                          have hwm : IntKind.i64.wrap ((i : Int) * (B.length : Int)) = (q : Int) := by rw [← hq]; exact mulS_cast (Nat.le_trans (Nat.mul_le_mul (show i ≤ 120 by omega) hB) (by omega))
                          have HPL := Lib.hid hPL
                          have HOX := Lib.hid hox
                          have HQ := Lib.hid hq
                          clear hox hq hz hPL
                          go_wp2_with (at_builtin; refine wpList_append_own_at _ rfl _ _ 65 rfl W1.heap.size 3 iI (.int .i64 0) 1 8 Tryz.underlying65 hiI hzI0 hzI1 hzI2 rfl (by decide) _ _ _ rfl (World.ownsRow.alloc ho.out _) ⟨wr.heap.size, 0, none⟩ 1 1 [.int .i64 (z : Int)] rfl rfl ?ed1 ?ed2 ?ed3 ?ed4 ?ed5 ?_)
                          try (case ed1 => exact World.news_of_block (heap_alloc_new _ _))
                          try (case ed2 => first | rfl | (intro u hu; simp at hu; subst hu; rfl))
                          try (case ed3 => exact g3)
                          try (case ed4 => exact g4)
                          try (case ed5 => simp only [World.size_alloc]; exact g5)
                          try (case ed5 => simpa using g5)
                          intro v6 w6 hown6 hgrow6 hnil6 hat6
                          clear hwm s3 s0 s1 s2
                          have hal : RowKit.Below wr.heap.size wr (wr.alloc (.cells #[.int .i64 (z : Int)] 3)) := (RowKit.Below.refl _ _).alloc (Nat.le_refl _) _
                          have hol := ho.out.lt
                          have O6 : OwnI w6 W1.heap.size v6 (upL (na.2.map (fun o => AT (o * B.length + k)) ++ (nb.2.take (m + 1)).map (fun o => AT (i * B.length + o)))) := by
                            have e : na.2.map (fun o => AT (o * B.length + k)) ++ (nb.2.take (m + 1)).map (fun o => AT (i * B.length + o)) = PL ++ [z] := by
                              rw [take_snoc' HOX.out, List.map_append, ← HPL.out]
                              rw [show [o].map (fun o => AT (i * B.length + o)) = [z] from by rw [List.map_singleton, HZ.out]]
                              try (first | rfl | rw [← List.append_assoc])
                            rw [e, upL_snoc]
                            unfold OwnI
                            rw [List.map_append, List.length_append]
                            exact hown6
                          obtain ⟨a6, c6, hv6⟩ := O6.form
                          have hm6 : (upL (na.2.map (fun o => AT (o * B.length + k)) ++ (nb.2.take (m + 1)).map (fun o => AT (i * B.length + o)))).length = len + 1 := by
                            rw [upL_len]
                            have := hl.out
                            simp only [List.length_append, List.length_map, List.length_take] at this ⊢
                            omega
                          rw [hm6] at hv6
                          subst hv6
                          have HO6 := Lib.hid O6
                          have ho6 : Only wr w6 (fun b => (Value.slice a len c).ownBlock = some b) := (Only.of_below (F := fun b => (Value.slice a len c).ownBlock = some b) hal).trans (Only.of_grown (F := fun b => (Value.slice a len c).ownBlock = some b) hgrow6 (fun g e => e)) (fun _ _ h => h)
                          have HB6 := Lib.hid (hb1.out.trans (ho6.below (by omega) (fun g h => (hol g h).1)))
                          have HU6 := Lib.hid (hou.out.only ho6 (fun g e1 e2 => hap.out g e1 e2))
                          have HA6 : Hid (Apart (.slice aL lenL cL) (.slice a6 (len + 1) c6)) := Lib.hid (fun g e1 e2 => by
                            rcases hat6 with h | h
                            · exact hap.out g e1 (h ▸ e2)
                            · rw [h] at e2
                              injection e2 with e2
                              have := hou.out.lt g e1
                              try simp at e2
                              omega)
                          have hsz6 : W1.heap.size + 2 ≤ w6.heap.size := by have := ho6.size; omega
                          have HM6 : Hid (len + 1 = (na.2.map (fun o => AT (o * B.length + k)) ++ (nb.2.take (m + 1)).map (fun o => AT (i * B.length + o))).length) := Lib.hid (by rw [← hm6, upL_len])
                          clear hown6 hgrow6 hnil6 hat6 hal hol O6 hm6 ho6 ho hb1 hl hou hap hll hat hxc kf' kg' cc'
                          go_wp2
                          go_roundw
                          case rel => exact ⟨m + 1, len + 1, a6, c6, by omega, by go_num, rfl, HM6, HO6, HB6, HU6, HA6, hsz6⟩
                          case measure => first | (simp [intOf]; done) | (simp [intOf]; omega)
                        · have hme : m = nb.2.length := by omega
                          subst hme
                          rw [List.take_length] at ho hl
                          have hsm := Hsm.out
                          have C3 := Lib.hid (hK.out.put_calls HTU.out (by rw [HTL.out]; omega) wr hb1.out (.slice aL lenL cL) (.slice a len c) (sumLP B.length i k na.1 nb.1) (sumLP B.length i k na.2 nb.2) W1.heap.size wr.heap.size W1.heap.size wr.heap.size (Nat.le_refl _) (Nat.le_refl _) (by rw [HAE.out, sumL_map]; exact hou.out.ints) (by rw [HAE.out, sumL_map]; exact ho.out.ints) (fun x hx => by rw [HTL.out]; exact US.out p' _ HND.out x (Or.inl hx)) (fun x hx => by rw [HTL.out]; exact US.out p' _ HND.out x (Or.inr hx)) (by omega) (by omega))
                          obtain ⟨su, hsu⟩ : ∃ su, seatAt P (sumLP B.length i k na.1 nb.1) (sumLP B.length i k na.2 nb.2) = su := ⟨_, rfl⟩
                          rw [hsu] at C3
                          have HSU := Lib.hid hsu
                          have OWNP := Lib.hid (own_only hK.out.own (Only.of_below (F := fun _ => False) hb1.out) (fun _ _ => id))
                          rw [HTL.out] at OWNP
                          have hs1 := hb1.out.size
                          clear hsu hsm
                          go_wp2_with (first
                            | (go_at_call 104; refine C3.out.mono ?_; rintro e w6 ⟨rfl, vn', vb', vs', hK6, ho6, hf6⟩; have OW6 := own_only OWNP.out ho6 (fun g e => by injection e with e; subst e; exact HNF.out))
                            | (at_builtin; refine wpList_append_own_at _ rfl _ _ 65 rfl (w.heap.size + 3) 3 iI (.int .i64 0) 1 8 Tryz.underlying65 hiI hzI0 hzI1 hzI2 rfl (by decide) _ _ _ rfl (World.ownsRow.alloc OW6 _) ⟨w6.heap.size, 0, none⟩ 1 1 [.int .i64 (su : Int)] rfl rfl ?ee1 ?ee2 ?ee3 ?ee4 ?ee5 ?_))
                          try (case ee1 => exact World.news_of_block (heap_alloc_new _ _))
                          try (case ee2 => first | rfl | (intro u hu; simp at hu; subst hu; rfl))
                          try (case ee3 => unfold maxLen; omega)
                          try (case ee4 => omega)
                          try (case ee5 => simp; have := ho6.size; omega)
                          intro v7 w7 hown7 hgrow7 hnil7 hat7
                          obtain ⟨g7, c7, rfl, HK7, HO7, HB7⟩ := hK.out.next hb1.out hK6 ho6 hf6 (by rw [HTL.out, HSU.out]; exact hown7) (by rw [HTL.out, HSU.out]; exact hgrow7) (by rw [HTL.out, HSU.out]; simpa using hat7)
                          rw [HTL.out]
                          have K7 : Hid (BkAt (w.heap.size + 3) w7 ((sumN A B).take (p' + 1)) g7 c7 vn' vb' vs') := Lib.hid (by rw [HTS.out]; exact HK7.out)
                          have B7 : Hid (RowKit.Below w.heap.size w w7) := Lib.hid (hbw.out.trans (HB7.out.mono (by omega)))
                          have hfar : ∀ q, q < w.heap.size + 3 → ¬ (Foot (w.heap.size + 3) vn vb q ∨ q = ga) := fun q hq h => by
                            rcases h with h | h
                            · have := (hK.out.bk.lt _ h).1; omega
                            · omega
                          have X7 : Hid (BoxAt w7 (w.heap.size + 2) (.slice none 0 0)) := Lib.hid (hx.out.only HO7.out (hfar _ (by omega)))
                          have kf7 := (HO7.out.cell (o := 0) blf (hfar _ (by omega))).trans kf
                          have kg7 := (HO7.out.cell (o := 0) blg (hfar _ (by omega))).trans kg
                          have HP7 : Hid (p' + 1 = i * B.length + (k + 1)) := Lib.hid (by have := hp.out; omega)
                          clear hown7 hgrow7 hnil7 hat7 hK6 ho6 hf6 OW6 HK7 HO7 HB7 hfar C3 hou ho hb1 hl hap hbw hx hK c1 c2 c3 c4 kf kg
                          go_wp2
                          go_roundw
                          case rel => exact ⟨k + 1, p' + 1, g7, c7, vn', vb', vs', by omega, by go_num, rfl, HP7, K7, B7, X7, kf7, kg7⟩
                          case measure => first | (simp [intOf]; done) | (simp [intOf]; omega)
        · have hke : k = B.length := by omega
          have HP2 : Hid (p' = (i + 1) * B.length) := Lib.hid (by rw [hp.out, hke, Nat.add_mul, Nat.one_mul])
          have hpl : p' ≤ 120 * 120 := by
            have h2 : (i + 1) * B.length ≤ A.length * B.length := Nat.mul_le_mul_right _ (by omega)
            have := HP2.out
            omega
          clear hp
          go_wp2
          go_roundw
          case rel => exact ⟨i + 1, p', ga, ca', vn, vb, vs, by omega, by go_num, rfl, HP2, hK, hbw, hx, kf, kg⟩
          case measure => first | (simp [intOf]; done) | (simp [intOf]; omega)
    · have hie : i = A.length := by omega
      have hpe : p = A.length * B.length := by rw [hp.out, hie]
      rw [show (sumN A B).take p = sumN A B from List.take_of_length_le (by rw [SL.out]; omega)] at hK
      have hpos : 0 < A.length * B.length := Nat.mul_pos pA pB
      obtain ⟨z, hz⟩ := lt_get (l := (addF [] (sumN A B)).2) (i := p - 1) (by rw [at_len, SL.out]; omega)
      have HZ : Hid ((addF [] (sumN A B)).2.getD ((sumN A B).length - 1) 0 = z) := Lib.hid (by rw [SL.out, ← hpe, List.getD_eq_getElem?_getD, hz]; rfl)
      have hbk := (addF_added [] book_nil (sumN A B) US.out).book
      have hzl : z < (addF [] (sumN A B)).1.length := by
        rw [← HZ.out]
        exact at_lt' _ US.out _ (by rw [SL.out]; omega)
      have hal := (addF_len [] (sumN A B)).2
      have hown := hK.out.own
      rw [SL.out] at hown hal
      rw [← hpe] at hown
      have hcz : wr.cell? ⟨ga, p - 1, none⟩ = some (.int .i64 (z : Int)) := by
        rw [World.ownsRow.cellAt hown (p - 1) (by omega), List.getElem?_map, hz]
        rfl
      have CF := Lib.hid (form_calls (w.heap.size + 3) (w.heap.size + 3) (addF [] (sumN A B)).1 vn vb vs (fun g => g = ga) z wr hK.out.bk hbk hzl (by simp at hal; omega))
      have HFI := Lib.hid (form_is (sumN A B))
      rw [HZ.out] at HFI
      rw [HFI.out] at CF
      obtain ⟨G, hG⟩ : ∃ G, (formM (sumN A B)).map upN = G := ⟨_, rfl⟩
      rw [hG] at CF
      have HGG := Lib.hid hG
      have hn1 : IntKind.i64.wrap ((p : Int) - 1) = (p : Int) - 1 := IntWalk.i64_in _ (by omega)
      have hn2 : (0 : Int) ≤ (p : Int) - 1 := by omega
      have hn3 : (p : Int) - 1 < p := by omega
      have hn4 : ((p : Int) - 1).toNat = p - 1 := by omega
      have hbs := hbw.out.size
      have hlt1 := block_of_cell hx.out.1
      have HPE := Lib.hid hpe
      clear hz hzl hbk hal hown hK hG hpe hp hpos
      go_wp2_with fail
      refine CF.out.mono ?_
      rintro e w5 ⟨v, rfl, hn5, hb5⟩
      obtain ⟨d5, z5⟩ := hx.out.below hb5
      have HB5 : Hid (RowKit.Below w.heap.size w (w5.setCell ⟨w.heap.size + 2, 0, none⟩ v)) := Lib.hid ((hbw.out.trans (hb5.mono hbs)).setCell (by show w.heap.size ≤ w.heap.size + 2; omega) _)
      have HN : Hid (NodesZ (w5.setCell ⟨w.heap.size + 2, 0, none⟩ v) w.heap.size (w5.setCell ⟨w.heap.size + 2, 0, none⟩ v).heap.size v G) := Lib.hid ((NodesZ.keep hn5 (fun b o h1 h2 => World.cell?_setCell_other _ _ _ _ (fun e => by injection e with e _ _; omega))).wide hbs (by simp))
      have hcr := World.cell?_setCell_same w5 ⟨w.heap.size + 2, 0, none⟩ v d5
      obtain ⟨av, cv, rfl, _⟩ := (show ∃ a c, v = .slice a G.length c ∧ True from by obtain ⟨a, c, e, _⟩ := hn5; exact ⟨a, c, e, trivial⟩)
      clear hn5 hb5 CF hx hbw
      go_wp2_with fail
      refine bodyPost_ret (v := .agg #[.slice av G.length cv]) (by simp [results, Tryz.results57, go_sem, hcr]) rfl ?_
      rw [HGG.out]
      exact ⟨_, rfl, HN.out, HB5.out⟩
end

section
open Go.RowKit
set_option linter.unusedVariables false
set_option linter.unusedSimpArgs false

set_option maxRecDepth 100000 in
set_option maxHeartbeats 2000000 in
theorem sumS_calls (va vb : Value) (f g h : List Nz) (ok : Bool) (hok : Hid (sumOk f g = ok)) (hv : Hid (sumV f g = h)) (w : World) (lo hi lo' hi' : Nat) (hh : hi ≤ w.heap.size) (hh' : hi' ≤ w.heap.size) (hva : NodesZ w lo hi va f) (hvb : NodesZ w lo' hi' vb g) :
    Calls Tryz.prog 64 #[.agg #[va], .agg #[vb]] w fun e w' => ∃ a c, e = .returned (.tuple #[.agg #[.slice a h.length c], .bool ok]) ∧ NodesZ w' w.heap.size w'.heap.size (.slice a h.length c) h ∧ Below w.heap.size w w' := by
  have HB0 := Lib.hid fun o o' o'' => show Below w.heap.size w (((w.alloc o).alloc o').alloc o'') from (((Below.refl _ _).alloc (Nat.le_refl _) _).alloc (by simp) _).alloc (by simp; omega) _
  obtain ⟨r, hr⟩ : ∃ r, pairB f g = r := ⟨_, rfl⟩
  have CG := Lib.hid fun (W : World) (hW : Below w.heap.size w W) => l5Pair_calls va vb f g r (Lib.hid hr) W lo hi lo' hi' (Nat.le_trans hh hW.size) (Nat.le_trans hh' hW.size) (hva.below hW hh) (hvb.below hW hh')
  have HVA := Lib.hid fun (W : World) (hW : Below w.heap.size w W) => hva.below hW hh
  have HVB := Lib.hid fun (W : World) (hW : Below w.heap.size w W) => hvb.below hW hh'
  obtain ⟨aa, ca, rfl⟩ := slice_form hva
  obtain ⟨ab, cb, rfl⟩ := slice_form hvb
  clear hva hvb
  go_enter Tryz.func64, Tryz.ntmps64
  go_wp2_with fail
  refine (CG.out _ (HB0.out _ _ _)).mono ?_
  rintro e w4 ⟨rfl, hb4⟩
  have k1 : w4.cell? ⟨w.heap.size, 0, none⟩ = some (.slice aa f.length ca) := (bcell hb4 _ _ (by simp; omega)).trans (by go_simp)
  have k2 : w4.cell? ⟨w.heap.size + 1, 0, none⟩ = some (.slice ab g.length cb) := (bcell hb4 _ _ (by first | (simp; done) | (simp; omega))).trans (by go_simp)
  obtain ⟨d0, z0⟩ : BoxAt w4 (w.heap.size + 1 + 1) (.slice none 0 0) := BoxAt.below ⟨by go_simp, by go_simp⟩ hb4
  have HB4 := Lib.hid (Below.trans (HB0.out _ _ _) (hb4.mono (by simp; omega)))
  have hlt := block_of_cell d0
  clear hb4 CG
  cases r with
  | false =>
    obtain rfl : h = [] := by rw [← hv.out, sumV_no hr]
    obtain rfl : ok = false := by rw [← hok.out, sumOk_no hr]
    have B4 := Lib.hid (HB4.out.setCell (p := ⟨w.heap.size + 1 + 1, 0, none⟩) (by show w.heap.size ≤ w.heap.size + 1 + 1; omega) (.slice none 0 0))
    have hcr := World.cell?_setCell_same w4 ⟨w.heap.size + 1 + 1, 0, none⟩ (.slice none 0 0) d0
    go_wp2_with fail
    exact bodyPost_ret (v := .tuple #[.agg #[.slice none 0 0], .bool false]) (by simp [results, Tryz.results64, go_sem, hcr]) rfl ⟨none, 0, rfl, (OwnF.nil _ _).nodesZ.wide (Nat.le_refl _) (Nat.le_refl _), B4.out⟩
  | true =>
    obtain ⟨hp1, hp2, hp3⟩ := (pairB_iff f g).1 hr
    obtain ⟨eA, uA, sA, pA, lA, mA⟩ := good_parts hp1
    obtain ⟨eB, uB, sB, pB, lB, mB⟩ := good_parts hp2
    have nA : (f.map downN).length = f.length := by simp
    have nB : (g.map downN).length = g.length := by simp
    have CN := Lib.hid fun (W : World) (hW : Below w.heap.size w W) => l5Sum_calls (f.map downN) (g.map downN) aa ab ca cb W lo hi lo' hi' (Nat.le_trans hh hW.size) (Nat.le_trans hh' hW.size) (by rw [nA, eA]; exact HVA.out W hW) (by rw [nB, eB]; exact HVB.out W hW) (by omega) (by omega) (by omega) (by omega) uA uB mA mB
    obtain ⟨G, hG⟩ : ∃ G, (formM (sumN (f.map downN) (g.map downN))).map upN = G := ⟨_, rfl⟩
    have HOK : Hid (fitsB G = ok) := Lib.hid (by rw [← hG, ← fitsN_B, ← sumOk_yes hr]; exact hok.out)
    have HH : Hid (h = if ok then G else []) := Lib.hid (by
      rw [← hv.out, sumV_yes hr]
      have := sumOk_yes hr
      rw [hok.out] at this
      cases ok with
      | true => rw [outV_yes this.symm, hG]; rfl
      | false => rw [outV_no this.symm]; rfl)
    rw [nA, nB, hG] at CN
    have CF := Lib.hid fun (W : World) (v : Value) (lo hi : Nat) (hhi : hi ≤ W.heap.size) (hz : NodesZ W lo hi v G) => l3If_calls v G ok HOK W lo hi hhi hz
    clear eA uA sA eB uB sB mA mB hok hv hr hp1 hp2 nA nB hG
    go_wp2_with fail
    refine (CN.out _ HB4.out).mono ?_
    rintro e w5 ⟨v5, rfl, hz5, hb5⟩
    have C2 := Lib.hid (CF.out w5 v5 _ _ (Nat.le_refl _) hz5)
    have HB5 := Lib.hid (HB4.out.trans (hb5.mono HB4.out.size))
    have hx5 : BoxAt w5 (w.heap.size + 1 + 1) (.slice none 0 0) := BoxAt.below ⟨d0, z0⟩ hb5
    have hs5 := HB5.out.size
    have hl5 := hb5.size
    have HZ5 := Lib.hid hz5
    clear hz5 hb5 CN CF
    go_wp2_with fail
    refine C2.out.mono ?_
    rintro e w6 ⟨rfl, hb6⟩
    obtain ⟨d6, z6⟩ : BoxAt w6 (w.heap.size + 1 + 1) (.slice none 0 0) := BoxAt.below hx5 hb6
    obtain ⟨u, hu⟩ : ∃ u, (if ok = true then v5 else Value.slice none 0 0) = u := ⟨_, rfl⟩
    have HO : Hid (NodesZ (w6.setCell ⟨w.heap.size + 1 + 1, 0, none⟩ u) w.heap.size (w6.setCell ⟨w.heap.size + 1 + 1, 0, none⟩ u).heap.size u h) := Lib.hid (by
      rw [HH.out, ← hu]
      cases ok with
      | false => exact (OwnF.nil _ _).nodesZ.wide (Nat.le_refl _) (Nat.le_refl _)
      | true => exact ((HZ5.out.below hb6 (Nat.le_refl _)).keep (fun b o h1 h2 => World.cell?_setCell_other _ _ _ _ (fun e => by injection e with e _ _; omega))).wide (by omega) (by simp; exact hb6.size))
    have HB6 : Hid (Below w.heap.size w (w6.setCell ⟨w.heap.size + 1 + 1, 0, none⟩ u)) := Lib.hid ((HB5.out.trans (hb6.mono hs5)).setCell (by show w.heap.size ≤ w.heap.size + 1 + 1; omega) _)
    obtain ⟨au, cu, rfl⟩ := slice_form HO.out
    rw [hu]
    have hcr := World.cell?_setCell_same w6 ⟨w.heap.size + 1 + 1, 0, none⟩ (.slice au h.length cu) d6
    clear hb6 hx5 C2 hu
    go_wp2_with fail
    exact bodyPost_ret (v := .tuple #[.agg #[.slice au h.length cu], .bool ok]) (by simp [results, Tryz.results64, go_sem, hcr]) rfl ⟨au, cu, rfl, HO.out, HB6.out⟩
end
end

section
section
open Go.RowKit
set_option linter.unusedVariables false
set_option linter.unusedSimpArgs false

set_option maxRecDepth 100000 in
set_option maxHeartbeats 8000000 in
theorem l5Neg_calls (vf : Value) (f : List Nd) (w : World) (lo hi : Nat) (hh : hi ≤ w.heap.size) (hv : NodesZ w lo hi vf (f.map upN)) (hf : Under f) (h0 : 0 < f.length) (hn : f.length ≤ 90000) (hl : ∀ nd ∈ f, nd.1.length ≤ 90000 ∧ nd.2.length ≤ 90000) :
    Calls Tryz.prog 58 #[.agg #[vf]] w fun e w' => ∃ v, e = .returned (.agg #[v]) ∧ NodesZ w' w.heap.size w'.heap.size v ((formM (swapN f)).map upN) ∧ Below w.heap.size w w' := by
  have HV := Lib.hid fun (W : World) (hW : Below w.heap.size w W) => hv.below hW hh
  have HF := Lib.hid hf
  have HL := Lib.hid hl
  have hfs := swapN_under hf
  have HFS := Lib.hid hfs
  have hsl := swapN_len f
  have HSL := Lib.hid hsl
  obtain ⟨aof, cof, hvs⟩ : ∃ a c, vf = .slice a f.length c := by obtain ⟨a, c, e, _⟩ := hv; exact ⟨a, c, by rw [e]; simp⟩
  subst hvs
  have e0 : ((w.alloc (.cells #[.slice aof f.length cof] 26)).alloc (.cells #[.slice none 0 0] 26)).heap.size = w.heap.size + 2 := by simp
  have hst := BkAt.start ((w.alloc (.cells #[.slice aof f.length cof] 26)).alloc (.cells #[.slice none 0 0] 26))
  rw [e0] at hst
  have HST := Lib.hid hst
  have HB0 : Hid (Below w.heap.size w ((((w.alloc (.cells #[.slice aof f.length cof] 26)).alloc (.cells #[.slice none 0 0] 26)).alloc (.cells #[.slice none 0 0, .slice none 0 0] 105)).alloc (.cells #[] 3))) :=
    Lib.hid (((((Below.refl _ _).alloc (Nat.le_refl _) _).alloc (by simp) _).alloc (by simp; omega) _).alloc (by simp; omega) _)
  clear hl hf hfs hv hst e0
  go_enter Tryz.func58, Tryz.ntmps58
  go_wp2
  go_loopw [4, 5] (fun q i wr => ∃ (k ga ca : Nat) (vn vb : Value) (vs : List (Value × Value)), k ≤ f.length ∧ i = .int .i64 k ∧ q = .slice (some ⟨ga, 0, none⟩) k ca ∧ Hid (BkAt (w.heap.size + 2) wr ((swapN f).take k) ga ca vn vb vs) ∧
      Hid (Below w.heap.size w wr) ∧ Hid (BoxAt wr (w.heap.size + 1) (.slice none 0 0)) ∧ wr.cell? ⟨w.heap.size, 0, none⟩ = some (.slice aof f.length cof)) (fun _ i _ => f.length - (intOf i).toNat)
  case atStart => exact ⟨0, w.heap.size + 2 + 1, 0, _, _, _, Nat.zero_le _, rfl, rfl, by rw [List.take_zero]; exact HST, HB0, Lib.hid ⟨by go_simp, by go_simp⟩, by go_simp⟩
  case round =>
    obtain ⟨k, ga, ca, vn, vb, vs, hk, rfl, rfl, hK, hb, hx, hbox⟩ := hrel
    clear HST HB0
    by_cases hlt : k < f.length
    · obtain ⟨nd, hnd⟩ := lt_get hlt
      obtain ⟨b, off, cc, v1, v2, e, hbh, p1, p2, i1, i2⟩ := nodes_atP (HV.out wr hb.out) hnd
      obtain ⟨q1, q2, q3⟩ := slice_inj e
      clear q2
      subst q1 q3
      have hsw : (swapN f)[k]? = some (nd.2, nd.1) := swapN_at hnd
      have HTS := Lib.hid (take_snoc' hsw)
      have htl : ((swapN f).take k).length = k := by rw [List.length_take, HSL.out]; omega
      have HTU := Lib.hid (under_take HFS.out k)
      have hnn := HL.out nd (List.mem_of_getElem? hnd)
      have hux := HF.out k nd hnd
      have hbs := hb.out.size
      have hks := hK.out.size
      have hga := hK.out.lt
      obtain ⟨P, hP⟩ : ∃ P, (swapN f).take k = P := ⟨_, rfl⟩
      rw [hP] at hK htl HTS HTU
      have C1 := Lib.hid fun (W : World) (hW : RowKit.Below wr.heap.size wr W) => hK.out.l3At_calls (by omega) W hW v2 nd.2 lo hi (by have := hW.size; omega) (i2.below hW (by omega)) hnn.2 (fun x hx => by rw [htl]; exact hux x (Or.inr hx))
      have C2 := Lib.hid fun (W : World) (hW : RowKit.Below wr.heap.size wr W) => hK.out.l3At_calls (by omega) W hW v1 nd.1 lo hi (by have := hW.size; omega) (i1.below hW (by omega)) hnn.1 (fun x hx => by rw [htl]; exact hux x (Or.inl hx))
      have C3 := Lib.hid fun (W : World) (hW : RowKit.Below wr.heap.size wr W) (vl vr : Value) (l1 h1 l2 h2 : Nat) (hh1 : h1 ≤ W.heap.size) (hh2 : h2 ≤ W.heap.size) hvl hvr => hK.out.put_calls HTU.out (by omega) W hW vl vr nd.2 nd.1 l1 h1 l2 h2 hh1 hh2 hvl hvr (fun x hx => by rw [htl]; exact hux x (Or.inr hx)) (fun x hx => by rw [htl]; exact hux x (Or.inl hx)) hnn.2 hnn.1
      have HOWN := Lib.hid hK.out.own
      rw [htl] at C1 C2 HOWN
      obtain ⟨su, hsu⟩ : ∃ su, seatAt P nd.2 nd.1 = su := ⟨_, rfl⟩
      rw [hsu] at C3
      have HSU := Lib.hid hsu
      have HTL := Lib.hid htl
      have HPP := Lib.hid hP
      have hnf := Lib.hid hK.out.nf
      have HOW := Lib.hid fun (W : World) (hW : RowKit.Below wr.heap.size wr W) => own_only HOWN.out (Only.of_below (F := fun _ => False) hW) (fun _ _ => id)
      have hbd : Hid (RowKit.Below wr.heap.size wr wr.drew) := Lib.hid (below_drewN (RowKit.Below.refl _ _) 1)
      have nb0 : Hid (¬ Foot (w.heap.size + 2) vn vb w.heap.size) := Lib.hid (fun hF => by have := (hK.out.bk.lt _ hF).1; omega)
      have nb1 : Hid (¬ Foot (w.heap.size + 2) vn vb b) := Lib.hid (fun hF => by have := (hK.out.bk.lt _ hF).1; omega)
      have hS0 : AddS w.heap.size b (off + k * 2) (.slice (some ⟨b, off, none⟩) f.length cof) v1 v2 wr.drew := ⟨hbox, p1, p2⟩
      have b0 : (0 : Int) ≤ k := by omega
      have b1 : (k : Int) < f.length := by omega
      obtain ⟨ar1, nr1, cr1, hvr1⟩ : ∃ a n c, v1 = .slice a n c := by obtain ⟨a, c, e, _⟩ := i1; exact ⟨a, _, c, e⟩
      obtain ⟨ar2, nr2, cr2, hvr2⟩ : ∃ a n c, v2 = .slice a n c := by obtain ⟨a, c, e, _⟩ := i2; exact ⟨a, _, c, e⟩
      subst hvr1 hvr2
      clear e i1 i2 hnd hsw htl hsu hP hnn hux
      go_wp2
      go_region_held3 (fun w' : World => w'.cell? ⟨w.heap.size, 0, none⟩ = some (.slice (some ⟨b, off, none⟩) f.length cof) ∧ w'.cell? ⟨b, off + k * 2, none⟩ = some (.slice ar1 nr1 cr1) ∧ w'.cell? ⟨b, off + k * 2 + 1, none⟩ = some (.slice ar2 nr2 cr2)) (first | exact hS0 | (go_split_ands; exact ⟨‹_›, ‹_›, ‹_›⟩) | (go_split_ands; exact addS_only HAPP.out (by omega) (by omega) ⟨‹_›, ‹_›, ‹_›⟩) | (go_split_ands; exact addS_below ((RowKit.Below.refl _ _).alloc (Nat.le_refl _) _) ⟨‹_›, ‹_›, ‹_›⟩) | (go_split_ands; exact addS_only ho6 nb0.out nb1.out ⟨‹_›, ‹_›, ‹_›⟩) | (go_split_ands; exact addS_below hb5 ⟨‹_›, ‹_›, ‹_›⟩) | (go_split_ands; exact addS_below hb4 ⟨‹_›, ‹_›, ‹_›⟩)) (first
        | (go_at_call 104; (with_reducible refine (C3.out w5 HB5 _ _ _ _ _ _ (Nat.le_refl _) (Nat.le_refl _) (hi1.below hb5 (Nat.le_refl _) |>.wide (Nat.le_refl _) hb5.size) hi2).mono ?_); rintro e w6 ⟨rfl, vn', vb', vs', hK6, ho6, hf6⟩)
        | (go_at_call 117; (with_reducible refine (C1.out _ hbd.out).mono ?_); rintro e w4 ⟨g1, c1, rfl, hi1, hb4⟩; have HB4 : RowKit.Below wr.heap.size wr w4 := hbd.out.trans hb4)
        | (go_at_call 117; (with_reducible refine (C2.out w4 HB4).mono ?_); rintro e w5 ⟨g2, c2, rfl, hi2, hb5⟩; have HB5 : RowKit.Below wr.heap.size wr w5 := HB4.trans (hb5.mono HB4.size); have HO6 := HOW.out w5 HB5)
        | (refine step_app_at rfl _ _ rfl (World.ownsRow.alloc (own_only HO6 ho6 (fun g e => by injection e with e; subst e; exact hnf.out)) _) rfl (B := w6.heap.size) (u := su) (by go_simp) rfl (by omega) (by simp; have := ho6.size; have := HB5.size; omega) ?_; intro v7 w7 hown7 hgrow7 hat7; have HAPP : Hid (Only _ w7 (fun g => g = ga)) := Lib.hid (Only.of_grown hgrow7 (fun g e => by injection e with e; exact e.symm))))
      all_goals
        obtain ⟨g7, c7, rfl, HK7, HO7, HB7⟩ := hK.out.next HB5 hK6 ho6 hf6 (by rw [HTL.out, HSU.out]; exact hown7) (by rw [HTL.out, HSU.out]; exact hgrow7) (by rw [HTL.out, HSU.out]; exact hat7)
        rw [HTL.out]
        have K7 : Hid (BkAt (w.heap.size + 2) w7 ((swapN f).take (k + 1)) g7 c7 vn' vb' vs') := Lib.hid (by rw [HTS.out]; exact HK7.out)
        have B7 : Hid (RowKit.Below w.heap.size w w7) := Lib.hid (hb.out.trans (HB7.out.mono (by omega)))
        have hwlt := block_of_cell hbox
        have X7 : Hid (BoxAt w7 (w.heap.size + 1) (.slice none 0 0)) := Lib.hid (hx.out.only HO7.out (fun h => by
          rcases h with h | h
          · have := (hK.out.bk.lt _ h).1; omega
          · omega))
        have hbox7 := (HO7.out.cell (o := 0) hwlt (fun h => by
          rcases h with h | h
          · exact nb0.out h
          · omega)).trans hbox
        clear hown7 hgrow7 hat7 HAPP hK6 ho6 hf6 HK7 HO7 HB7 hb hx hK hS0 hbox p1 p2
        go_wp2
        go_roundw
        case rel => exact ⟨k + 1, g7, c7, vn', vb', vs', by omega, by go_num, rfl, K7, B7, X7, hbox7⟩
        case measure => simp [intOf]; omega
    · have hkl : k = f.length := by omega
      subst hkl
      rw [show (swapN f).take f.length = swapN f from List.take_of_length_le (by rw [HSL.out]; omega)] at hK
      obtain ⟨z, hz⟩ := lt_get (l := (addF [] (swapN f)).2) (i := f.length - 1) (by rw [at_len, HSL.out]; omega)
      have HZ : Hid ((addF [] (swapN f)).2.getD ((swapN f).length - 1) 0 = z) := Lib.hid (by rw [HSL.out, List.getD_eq_getElem?_getD, hz]; rfl)
      have hbk := (addF_added [] book_nil (swapN f) HFS.out).book
      have hzl : z < (addF [] (swapN f)).1.length := by
        rw [← HZ.out]
        exact at_lt' _ HFS.out _ (by rw [HSL.out]; omega)
      have hal := (addF_len [] (swapN f)).2
      have hown := hK.out.own
      rw [HSL.out] at hown hal
      have hcz : wr.cell? ⟨ga, f.length - 1, none⟩ = some (.int .i64 (z : Int)) := by
        rw [World.ownsRow.cellAt hown (f.length - 1) (by omega), List.getElem?_map, hz]
        rfl
      have CF := Lib.hid (form_calls (w.heap.size + 2) (w.heap.size + 2) (addF [] (swapN f)).1 vn vb vs (fun g => g = ga) z wr hK.out.bk hbk hzl (by simp at hal; omega))
      have HFI := Lib.hid (form_is (swapN f))
      rw [HZ.out] at HFI
      rw [HFI.out] at CF
      obtain ⟨G, hG⟩ : ∃ G, (formM (swapN f)).map upN = G := ⟨_, rfl⟩
      rw [hG] at CF
      have HGG := Lib.hid hG
      have hn1 : IntKind.i64.wrap ((f.length : Int) - 1) = (f.length : Int) - 1 := IntWalk.i64_in _ (by omega)
      have hn2 : (0 : Int) ≤ (f.length : Int) - 1 := by omega
      have hn3 : (f.length : Int) - 1 < f.length := by omega
      have hn4 : ((f.length : Int) - 1).toNat = f.length - 1 := by omega
      have hbs := hb.out.size
      have hlt1 := block_of_cell hx.out.1
      clear hz hzl hbk hal hown hK hG
      go_wp2_with fail
      refine CF.out.mono ?_
      rintro e w5 ⟨v, rfl, hn5, hb5⟩
      obtain ⟨d5, z5⟩ := hx.out.below hb5
      have HB5 : Hid (RowKit.Below w.heap.size w (w5.setCell ⟨w.heap.size + 1, 0, none⟩ v)) := Lib.hid ((hb.out.trans (hb5.mono hbs)).setCell (by show w.heap.size ≤ w.heap.size + 1; omega) _)
      have HN : Hid (NodesZ (w5.setCell ⟨w.heap.size + 1, 0, none⟩ v) w.heap.size (w5.setCell ⟨w.heap.size + 1, 0, none⟩ v).heap.size v G) := Lib.hid ((NodesZ.keep hn5 (fun b o h1 h2 => World.cell?_setCell_other _ _ _ _ (fun e => by injection e with e _ _; omega))).wide hbs (by simp))
      have hcr := World.cell?_setCell_same w5 ⟨w.heap.size + 1, 0, none⟩ v d5
      obtain ⟨av, cv, rfl, _⟩ := (show ∃ a c, v = .slice a G.length c ∧ True from by obtain ⟨a, c, e, _⟩ := hn5; exact ⟨a, c, e, trivial⟩)
      clear hn5 hb5 CF hx hb
      go_wp2_with fail
      refine bodyPost_ret (v := .agg #[.slice av G.length cv]) (by simp [results, Tryz.results58, go_sem, hcr]) rfl ?_
      rw [HGG.out]
      exact ⟨_, rfl, HN.out, HB5.out⟩
end
end

section
open Go.RowKit
set_option linter.unusedVariables false
set_option linter.unusedSimpArgs false

theorem mn_next {w W1 W2 : World} {va vb : Value} (h : W1.cell? ⟨w.heap.size, 0, none⟩ = some va ∧ W1.cell? ⟨w.heap.size + 1, 0, none⟩ = some vb ∧ Below w.heap.size w W1) (hb : Below W1.heap.size W1 W2) :
    W2.cell? ⟨w.heap.size, 0, none⟩ = some va ∧ W2.cell? ⟨w.heap.size + 1, 0, none⟩ = some vb ∧ Below w.heap.size w W2 :=
  ⟨(bcell hb _ _ (block_of_cell h.1)).trans h.1, (bcell hb _ _ (block_of_cell h.2.1)).trans h.2.1, h.2.2.trans (hb.mono h.2.2.size)⟩
theorem mn_set {w W1 : World} {va vb x : Value} (h : W1.cell? ⟨w.heap.size, 0, none⟩ = some va ∧ W1.cell? ⟨w.heap.size + 1, 0, none⟩ = some vb ∧ Below w.heap.size w W1) :
    (W1.setCell ⟨w.heap.size + 1 + 1, 0, none⟩ x).cell? ⟨w.heap.size, 0, none⟩ = some va ∧ (W1.setCell ⟨w.heap.size + 1 + 1, 0, none⟩ x).cell? ⟨w.heap.size + 1, 0, none⟩ = some vb ∧ Below w.heap.size w (W1.setCell ⟨w.heap.size + 1 + 1, 0, none⟩ x) :=
  ⟨(World.cell?_setCell_other _ _ _ _ (fun e => by injection e with e _ _; omega)).trans h.1, (World.cell?_setCell_other _ _ _ _ (fun e => by injection e with e _ _; omega)).trans h.2.1, h.2.2.setCell (by show w.heap.size ≤ w.heap.size + 1 + 1; omega) _⟩

set_option maxRecDepth 100000 in
set_option maxHeartbeats 2000000 in
theorem minusS_calls (va vb : Value) (f g h : List Nz) (ok : Bool) (hok : Hid (mnOk f g = ok)) (hv : Hid (mnV f g = h)) (w : World) (lo hi lo' hi' : Nat) (hh : hi ≤ w.heap.size) (hh' : hi' ≤ w.heap.size) (hva : NodesZ w lo hi va f) (hvb : NodesZ w lo' hi' vb g) :
    Calls Tryz.prog 15 #[.agg #[va], .agg #[vb]] w fun e w' => ∃ a c, e = .returned (.tuple #[.agg #[.slice a h.length c], .bool ok]) ∧ NodesZ w' w.heap.size w'.heap.size (.slice a h.length c) h ∧ Below w.heap.size w w' := by
  have HB0 := Lib.hid fun o o' o'' => show Below w.heap.size w (((w.alloc o).alloc o').alloc o'') from (((Below.refl _ _).alloc (Nat.le_refl _) _).alloc (by simp) _).alloc (by simp; omega) _
  obtain ⟨r, hr⟩ : ∃ r, pairB f g = r := ⟨_, rfl⟩
  have CG := Lib.hid fun (W : World) (hW : Below w.heap.size w W) => l5Pair_calls va vb f g r (Lib.hid hr) W lo hi lo' hi' (Nat.le_trans hh hW.size) (Nat.le_trans hh' hW.size) (hva.below hW hh) (hvb.below hW hh')
  have HVA := Lib.hid fun (W : World) (hW : Below w.heap.size w W) => hva.below hW hh
  have HVB := Lib.hid fun (W : World) (hW : Below w.heap.size w W) => hvb.below hW hh'
  obtain ⟨aa, ca, rfl⟩ := slice_form hva
  obtain ⟨ab, cb, rfl⟩ := slice_form hvb
  clear hva hvb
  go_enter Tryz.func15, Tryz.ntmps15
  go_wp2_with fail
  refine (CG.out _ (HB0.out _ _ _)).mono ?_
  rintro e w4 ⟨rfl, hb4⟩
  have k1 : w4.cell? ⟨w.heap.size, 0, none⟩ = some (.slice aa f.length ca) := (bcell hb4 _ _ (by simp; omega)).trans (by go_simp)
  have k2 : w4.cell? ⟨w.heap.size + 1, 0, none⟩ = some (.slice ab g.length cb) := (bcell hb4 _ _ (by first | (simp; done) | (simp; omega))).trans (by go_simp)
  have hx4 : BoxAt w4 (w.heap.size + 1 + 1) (.slice none 0 0) := BoxAt.below ⟨by go_simp, by go_simp⟩ hb4
  have HB4 := Lib.hid (Below.trans (HB0.out _ _ _) (hb4.mono (by simp; omega)))
  clear hb4 CG
  cases r with
  | false =>
    obtain ⟨d0, z0⟩ := hx4
    obtain rfl : h = [] := by rw [← hv.out, (mn_bad hr).1]
    obtain rfl : ok = false := by rw [← hok.out, (mn_bad hr).2]
    have B4 := Lib.hid (HB4.out.setCell (p := ⟨w.heap.size + 1 + 1, 0, none⟩) (by show w.heap.size ≤ w.heap.size + 1 + 1; omega) (.slice none 0 0))
    have hcr := World.cell?_setCell_same w4 ⟨w.heap.size + 1 + 1, 0, none⟩ (.slice none 0 0) d0
    go_wp2_with fail
    exact bodyPost_ret (v := .tuple #[.agg #[.slice none 0 0], .bool false]) (by simp [results, Tryz.results15, go_sem, hcr]) rfl ⟨none, 0, rfl, (OwnF.nil _ _).nodesZ.wide (Nat.le_refl _) (Nat.le_refl _), B4.out⟩
  | true =>
    obtain ⟨hp1, hp2, hp3⟩ := (pairB_iff f g).1 hr
    obtain ⟨eA, uA, sA, pA, lA, mA⟩ := good_parts hp1
    obtain ⟨eB, uB, sB, pB, lB, mB⟩ := good_parts hp2
    obtain ⟨eN, uN, sN, pN, lN, mN⟩ := good_parts (neg_good hp2)
    rw [neg_down hp2] at eN uN sN mN
    rw [neg_len hp2] at pN lN
    have nA : (f.map downN).length = f.length := by simp
    have nB : (g.map downN).length = g.length := by simp
    have nN : (formM (swapN (g.map downN))).length = g.length := by rw [← neg_down hp2, List.length_map, neg_len hp2]
    obtain ⟨N, hN⟩ : ∃ N, formM (swapN (g.map downN)) = N := ⟨_, rfl⟩
    rw [hN] at eN uN sN mN nN
    have CL := Lib.hid fun (W : World) (hW : Below w.heap.size w W) => l5Neg_calls (.slice ab g.length cb) (g.map downN) W lo' hi' (Nat.le_trans hh' hW.size) (by rw [eB]; exact HVB.out W hW) uB (by omega) (by omega) (fun nd hnd => by have := mB nd hnd; omega)
    rw [hN] at CL
    have CN := Lib.hid fun (W : World) (hW : Below w.heap.size w W) (an : Option Addr) (cn : Nat) (l h : Nat) (hl : h ≤ W.heap.size) (hz : NodesZ W l h (.slice an g.length cn) (N.map upN)) => l5Sum_calls (f.map downN) N aa an ca cn W lo hi l h (Nat.le_trans hh hW.size) hl (by rw [nA, eA]; exact HVA.out W hW) (by rw [nN]; exact hz) (by omega) (by omega) (by omega) (by omega) uA uN mA mN
    obtain ⟨G, hG⟩ : ∃ G, (formM (sumN (f.map downN) N)).map upN = G := ⟨_, rfl⟩
    have HOK : Hid (fitsB G = ok) := Lib.hid (by rw [← hG, ← fitsN_B, ← hN, ← (mn_yes hr).2]; exact hok.out)
    have HH : Hid (h = if ok then G else []) := Lib.hid (by
      rw [← hv.out, (mn_yes hr).1]
      have := (mn_yes hr).2
      rw [hok.out] at this
      cases ok with
      | true => rw [outV_yes this.symm, hN, hG]; rfl
      | false => rw [outV_no this.symm]; rfl)
    rw [nA, nN, hG] at CN
    have CF := Lib.hid fun (W : World) (v : Value) (lo hi : Nat) (hhi : hi ≤ W.heap.size) (hz : NodesZ W lo hi v G) => show Calls Tryz.prog 56 #[.agg #[v]] W fun e w' => ∃ au cu, e = .returned (.tuple #[.agg #[.slice au h.length cu], .bool ok]) ∧ NodesZ w' lo hi (.slice au h.length cu) h ∧ Below W.heap.size W w' from by
      refine (l3If_calls v G ok HOK W lo hi hhi hz).mono ?_
      rintro e w' ⟨rfl, hb⟩
      have hz' : NodesZ w' lo hi (if ok then v else .slice none 0 0) h := by
        rw [HH.out]
        cases ok with
        | false => exact ⟨none, 0, rfl, ⟨by simp, by omega⟩, fun j nd hj => by simp at hj⟩
        | true => exact hz.below hb hhi
      obtain ⟨au, cu, hu⟩ := slice_form hz'
      exact ⟨au, cu, by rw [hu], by rw [← hu]; exact hz', hb⟩
    have HNN := Lib.hid nN
    clear eA uA sA eB uB sB mA mB eN uN sN mN hok hv hr hp1 hp2 hp3 nA nB nN hG hN pA pB pN lA lB lN
    have hd : Below w4.heap.size w4 w4.drew := below_drewN (Below.refl _ _) 1
    have hxd := BoxAt.below hx4 hd
    have hS0 := mn_next ⟨k1, k2, HB4.out⟩ hd
    have HS4 := Lib.hid HB4.out.size
    clear hd hx4
    go_upto_region 3 with fail
    go_region_held3 (fun w' : World => w'.cell? ⟨w.heap.size, 0, none⟩ = some (.slice aa f.length ca) ∧ w'.cell? ⟨w.heap.size + 1, 0, none⟩ = some (.slice ab g.length cb) ∧ Below w.heap.size w w') (first | exact hS0 | (go_split_ands; exact ⟨‹_›, ‹_›, ‹_›⟩) | (go_split_ands; exact mn_next ⟨‹_›, ‹_›, ‹_›⟩ hbc) | (go_split_ands; exact mn_next ⟨‹_›, ‹_›, ‹_›⟩ hbb) | (go_split_ands; exact mn_next ⟨‹_›, ‹_›, ‹_›⟩ hba) | (go_split_ands; exact mn_set ⟨‹_›, ‹_›, ‹_›⟩)) (first
      | (go_at_call 58; go_split_ands; (with_reducible refine (CL.out _ (by assumption)).mono ?_); rintro e wa ⟨va, rfl, hza, hba⟩; obtain ⟨an, cn, hvn⟩ := slice_form hza; (rw [List.length_map, HNN.out] at hvn); subst hvn)
      | (go_at_call 57; go_split_ands; (with_reducible refine (CN.out _ (by assumption) an cn _ _ (Nat.le_refl _) hza).mono ?_); rintro e wb ⟨vs, rfl, hzs, hbb⟩)
      | (go_at_call 56; go_split_ands; (with_reducible refine (CF.out _ vs _ _ (Nat.le_refl _) hzs).mono ?_); rintro e wc ⟨au, cu, rfl, hzc, hbc⟩; obtain ⟨d6, z6⟩ := BoxAt.below hxd (hba.trans ((hbb.mono hba.size).trans (hbc.mono (Nat.le_trans hba.size hbb.size))))))
    all_goals
      rename_i hH
      have HB6 := Lib.hid hH.2.2
      have hcr := World.cell?_setCell_same wc ⟨w.heap.size + 1 + 1, 0, none⟩ (.slice au h.length cu) d6
      have hsq : w.heap.size + 1 + 1 < wa.heap.size := Nat.lt_of_lt_of_le (block_of_cell hxd.1) hba.size
      have HO : Hid (NodesZ (wc.setCell ⟨w.heap.size + 1 + 1, 0, none⟩ (.slice au h.length cu)) w.heap.size (wc.setCell ⟨w.heap.size + 1 + 1, 0, none⟩ (.slice au h.length cu)).heap.size (.slice au h.length cu) h) := Lib.hid ((hzc.keep (fun b o h1 h2 => World.cell?_setCell_other _ _ _ _ (fun e => by injection e with e _ _; omega))).wide (by omega) (by simp; exact hbc.size))
      clear hH hzc hbc hzs hbb hza hba d6 z6 hxd
      go_wp2_with fail
      exact bodyPost_ret (v := .tuple #[.agg #[.slice au h.length cu], .bool ok]) (by simp [results, Tryz.results15, go_sem, hcr]) rfl ⟨au, cu, rfl, HO.out, HB6.out⟩
end

section
section
open Go.RowKit
set_option linter.unusedVariables false
set_option linter.unusedSimpArgs false

/-- as the program's -/
theorem negS_calls (va : Value) (f g : List Nz) (ok : Bool) (hok : Hid (goodB f = ok)) (hg : Hid (negV f = g)) (w : World) (lo hi : Nat) (hh : hi ≤ w.heap.size) (hva : NodesZ w lo hi va f) :
    Calls Tryz.prog 23 #[.agg #[va]] w fun e w' => ∃ a c, e = .returned (.tuple #[.agg #[.slice a g.length c], .bool ok]) ∧ NodesZ w' w.heap.size w'.heap.size (.slice a g.length c) g ∧ Below w.heap.size w w' := by
  have HB0 := Lib.hid fun o o' => show Below w.heap.size w ((w.alloc o).alloc o') from ((Below.refl _ _).alloc (Nat.le_refl _) _).alloc (by simp) _
  have CG := Lib.hid fun (W : World) (hW : Below w.heap.size w W) => show Calls Tryz.prog 66 #[.agg #[va]] W fun e w' => e = .returned (.bool ok) ∧ Below W.heap.size W w' from by
    rw [← hok.out]
    exact goodS_calls va f W lo hi (Nat.le_trans hh hW.size) (hva.below hW hh)
  have HVA := Lib.hid fun (W : World) (hW : Below w.heap.size w W) => hva.below hW hh
  obtain ⟨ao, c0, rfl⟩ : ∃ ao c, va = .slice ao f.length c := by obtain ⟨ao, c, e, _⟩ := hva; exact ⟨ao, c, e⟩
  clear hva
  go_enter Tryz.func23, Tryz.ntmps23
  go_wp2_with fail
  refine (CG.out _ (HB0.out _ _)).mono ?_
  rintro e w4 ⟨rfl, hb4⟩
  have k0 : w4.cell? ⟨w.heap.size, 0, none⟩ = some (.slice ao f.length c0) := (bcell hb4 _ _ (by simp; omega)).trans (by go_simp)
  obtain ⟨d0, z0⟩ : BoxAt w4 (w.heap.size + 1) (.slice none 0 0) := BoxAt.below ⟨by go_simp, by go_simp⟩ hb4
  have HB4 := Lib.hid (Below.trans (HB0.out _ _) (hb4.mono (by simp; omega)))
  have hlt := block_of_cell d0
  clear hb4 CG
  cases ok with
  | false =>
    obtain rfl : g = [] := by rw [← hg.out, negV_no hok.out]
    have B4 := Lib.hid (HB4.out.setCell (p := ⟨w.heap.size + 1, 0, none⟩) (by show w.heap.size ≤ w.heap.size + 1; omega) (.slice none 0 0))
    have hcr := World.cell?_setCell_same w4 ⟨w.heap.size + 1, 0, none⟩ (.slice none 0 0) d0
    go_wp2_with fail
    exact bodyPost_ret (v := .tuple #[.agg #[.slice none 0 0], .bool false]) (by simp [results, Tryz.results23, go_sem, hcr]) rfl ⟨none, 0, rfl, ⟨none, 0, rfl, by simp, fun j nd hj => by simp at hj⟩, B4.out⟩
  | true =>
    obtain ⟨hf1, hf2, _, _⟩ := (goodB_iff f).1 hok.out
    have C := Lib.hid (l5Neg_calls (.slice ao f.length c0) (f.map downN) w4 lo hi (Nat.le_trans hh HB4.out.size) (by rw [hf2.up.1]; exact HVA.out w4 HB4.out) hf2.up.2.under (by simpa using hf1.1) (by have := hf1.2.1; simp; omega) (downN_small hf1))
    rw [show (formM (swapN (f.map downN))).map upN = g from by rw [← hg.out, negV_yes hok.out]] at C
    clear hf1 hf2 hok hg
    go_wp2_with fail
    refine C.out.mono ?_
    rintro e w6 ⟨v, rfl, hn6, hb6⟩
    obtain ⟨a, c, rfl, _⟩ := (show ∃ a c, v = .slice a g.length c ∧ True from by obtain ⟨a, c, e, _⟩ := hn6; exact ⟨a, c, e, trivial⟩)
    obtain ⟨d6, z6⟩ : BoxAt w6 (w.heap.size + 1) (.slice none 0 0) := BoxAt.below ⟨d0, z0⟩ hb6
    have HN : Hid (NodesZ (w6.setCell ⟨w.heap.size + 1, 0, none⟩ (.slice a g.length c)) w.heap.size (w6.setCell ⟨w.heap.size + 1, 0, none⟩ (.slice a g.length c)).heap.size (.slice a g.length c) g) := Lib.hid ((NodesZ.keep hn6 (fun b o h1 h2 => World.cell?_setCell_other _ _ _ _ (fun e => by injection e with e _ _; omega))).wide HB4.out.size (by simp))
    have HB6 : Hid (Below w.heap.size w (w6.setCell ⟨w.heap.size + 1, 0, none⟩ (.slice a g.length c))) := Lib.hid ((HB4.out.trans (hb6.mono HB4.out.size)).setCell (by show w.heap.size ≤ w.heap.size + 1; omega) _)
    have hcr6 := World.cell?_setCell_same w6 ⟨w.heap.size + 1, 0, none⟩ (.slice a g.length c) d6
    clear hn6 hb6 C d0 z0
    go_wp2_with fail
    exact bodyPost_ret (v := .tuple #[.agg #[.slice a g.length c], .bool true]) (by simp [results, Tryz.results23, go_sem, hcr6]) rfl ⟨a, c, rfl, HN.out, HB6.out⟩
end
end

end Go.Proofs.YtabfdaofikccmaaGreat
