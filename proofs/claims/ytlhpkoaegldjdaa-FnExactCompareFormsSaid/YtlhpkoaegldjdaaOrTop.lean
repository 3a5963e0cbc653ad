/- The program's AtLeast, CompareForms, EqualForms, OutcomeOf, WinsMoving. -/
import Derived.Test.YtlhpkoaegldjdaaOrI
import Derived.Test.YtlhpkoaegldjdaaFmLaw
namespace Go.Proofs.Ytlhpkoaegldjdaa
open Go.RowKit
set_option linter.unusedVariables false
set_option linter.unusedSimpArgs false

/-- who wins the difference of two games -/
def diffF (f g : List Nz) (l : Bool) : Bool := winF (f.map downN) (g.map downN) (f.length - 1) (g.length - 1) l

theorem atLeastI_calls (va vb : Value) (f g : List Nz) (a ok : Bool) (hok : Hid ((goodB f && goodB g) = ok)) (ha : Hid ((goodB f && goodB g && !diffF f g false) = a)) (w : World) (lo hi lo' hi' : Nat) (hh : hi ≤ w.heap.size) (hh' : hi' ≤ w.heap.size) (hva : NodesZ w lo hi va f) (hvb : NodesZ w lo' hi' vb g) :
    Calls Try.prog 36 #[.agg #[va], .agg #[vb]] w fun e w' => e = .returned (.tuple #[.bool a, .bool ok]) ∧ Below w.heap.size w w' := by
  have HB0 := Lib.hid fun o o' => show Below w.heap.size w ((w.alloc o).alloc o') from ((Below.refl _ _).alloc (Nat.le_refl _) _).alloc (by simp) _
  have HVA := Lib.hid fun (W : World) (hW : Below w.heap.size w W) => hva.below hW hh
  have HVB := Lib.hid fun (W : World) (hW : Below w.heap.size w W) => hvb.below hW hh'
  clear hva hvb
  cases ok with
  | false =>
    obtain rfl : a = false := by rw [← ha.out, hok.out]; rfl
    obtain ⟨r1, h1⟩ : ∃ r, goodB f = r := ⟨_, rfl⟩
    obtain ⟨r2, h2⟩ : ∃ r, goodB g = r := ⟨_, rfl⟩
    have hb : (r1 && r2) = false := by rw [← h1, ← h2]; exact hok.out
    have C := Lib.hid fun (W : World) (hW : Below w.heap.size w W) => contest_bad va vb f g r1 r2 (Lib.hid h1) (Lib.hid h2) hb W lo hi lo' hi' (Nat.le_trans hh hW.size) (Nat.le_trans hh' hW.size) (HVA.out W hW) (HVB.out W hW)
    clear h1 h2 hb
    go_enter Try.func36, Try.ntmps36
    go_wp2_with fail
    refine (C.out _ (HB0.out _ _)).mono ?_
    rintro e w4 ⟨rfl, hb4⟩
    have HB4 := Lib.hid (Below.trans (HB0.out _ _) (hb4.mono (by simp; omega)))
    clear hb4
    go_wp2_with fail
    exact bodyPost_ret (v := .tuple #[.bool false, .bool false]) (by simp [results, Try.results36, go_sem]) rfl ⟨rfl, HB4.out⟩
  | true =>
    have hg := hok.out
    rw [Bool.and_eq_true] at hg
    have ha2 : (!diffF f g false) = a := by rw [← ha.out, hg.1, hg.2]; rfl
    have hr : diffF f g false = !a := by rw [← ha2]; simp
    have C := Lib.hid fun (W : World) (hW : Below w.heap.size w W) => contest_good va vb f g hg.1 hg.2 W lo hi lo' hi' (Nat.le_trans hh hW.size) (Nat.le_trans hh' hW.size) (HVA.out W hW) (HVB.out W hW)
    have CF := Lib.hid fun (W w1 : World) (P : Nat) (h : Held W w1 P (f.map downN) (g.map downN) va vb) => held_first h hg.1 hg.2 false (!a) (Lib.hid hr)
    clear hg ha2 hr
    go_enter Try.func36, Try.ntmps36
    go_wp2_with fail
    refine (C.out _ (HB0.out _ _)).mono ?_
    rintro e w4 ⟨P, rfl, hH⟩
    have C2 := Lib.hid (CF.out _ w4 P hH)
    clear hH CF
    go_wp2_with fail
    refine C2.out.mono ?_
    rintro e w5 ⟨rfl, hb5⟩
    have HB5 := Lib.hid (Below.trans (HB0.out _ _) (hb5.mono (by simp; omega)))
    clear hb5 C2
    go_wp2_with fail
    exact bodyPost_ret (v := .tuple #[.bool a, .bool true]) (by simp [results, Try.results36, go_sem]) rfl ⟨rfl, HB5.out⟩

theorem compareI_calls (va vb : Value) (f g : List Nz) (x : Int) (ok : Bool) (hok : Hid ((goodB f && goodB g) = ok)) (hx : Hid ((if goodB f && goodB g then codeOf (!diffF f g false) (!diffF f g true) else 0) = x)) (w : World) (lo hi lo' hi' : Nat) (hh : hi ≤ w.heap.size) (hh' : hi' ≤ w.heap.size) (hva : NodesZ w lo hi va f) (hvb : NodesZ w lo' hi' vb g) :
    Calls Try.prog 40 #[.agg #[va], .agg #[vb]] w fun e w' => e = .returned (.tuple #[.int .i64 x, .bool ok]) ∧ Below w.heap.size w w' := by
  have HB0 := Lib.hid fun o o' => show Below w.heap.size w ((w.alloc o).alloc o') from ((Below.refl _ _).alloc (Nat.le_refl _) _).alloc (by simp) _
  have HVA := Lib.hid fun (W : World) (hW : Below w.heap.size w W) => hva.below hW hh
  have HVB := Lib.hid fun (W : World) (hW : Below w.heap.size w W) => hvb.below hW hh'
  clear hva hvb
  cases ok with
  | false =>
    obtain rfl : x = 0 := by rw [← hx.out, hok.out]; rfl
    obtain ⟨r1, h1⟩ : ∃ r, goodB f = r := ⟨_, rfl⟩
    obtain ⟨r2, h2⟩ : ∃ r, goodB g = r := ⟨_, rfl⟩
    have hb : (r1 && r2) = false := by rw [← h1, ← h2]; exact hok.out
    have C := Lib.hid fun (W : World) (hW : Below w.heap.size w W) => contest_bad va vb f g r1 r2 (Lib.hid h1) (Lib.hid h2) hb W lo hi lo' hi' (Nat.le_trans hh hW.size) (Nat.le_trans hh' hW.size) (HVA.out W hW) (HVB.out W hW)
    clear h1 h2 hb
    go_enter Try.func40, Try.ntmps40
    go_wp2_with fail
    refine (C.out _ (HB0.out _ _)).mono ?_
    rintro e w4 ⟨rfl, hb4⟩
    have HB4 := Lib.hid (Below.trans (HB0.out _ _) (hb4.mono (by simp; omega)))
    clear hb4
    go_wp2_with fail
    exact bodyPost_ret (v := .tuple #[.int .i64 0, .bool false]) (by simp [results, Try.results40, go_sem]) rfl ⟨rfl, HB4.out⟩
  | true =>
    have hg := hok.out
    obtain ⟨l, hl⟩ : ∃ l, diffF f g true = l := ⟨_, rfl⟩
    obtain ⟨r, hr⟩ : ∃ r, diffF f g false = r := ⟨_, rfl⟩
    have HX : Hid (codeOf (!r) (!l) = x) := Lib.hid (by rw [← hx.out, hg, hl, hr]; rfl)
    rw [Bool.and_eq_true] at hg
    have C := Lib.hid fun (W : World) (hW : Below w.heap.size w W) => contest_good va vb f g hg.1 hg.2 W lo hi lo' hi' (Nat.le_trans hh hW.size) (Nat.le_trans hh' hW.size) (HVA.out W hW) (HVB.out W hW)
    have CF := Lib.hid fun (W w1 : World) (P : Nat) (h : Held W w1 P (f.map downN) (g.map downN) va vb) => held_outcome h hg.1 hg.2 r l (Lib.hid hl) (Lib.hid hr)
    rw [HX.out] at CF
    clear hg hl hr
    go_enter Try.func40, Try.ntmps40
    go_wp2_with fail
    refine (C.out _ (HB0.out _ _)).mono ?_
    rintro e w4 ⟨P, rfl, hH⟩
    have C2 := Lib.hid (CF.out _ w4 P hH)
    clear hH CF
    go_wp2_with fail
    refine C2.out.mono ?_
    rintro e w5 ⟨rfl, hb5⟩
    have HB5 := Lib.hid (Below.trans (HB0.out _ _) (hb5.mono (by simp; omega)))
    clear hb5 C2
    go_wp2_with fail
    exact bodyPost_ret (v := .tuple #[.int .i64 x, .bool true]) (by simp [results, Try.results40, go_sem]) rfl ⟨rfl, HB5.out⟩

theorem equalI_calls (va vb : Value) (f g : List Nz) (a ok : Bool) (hok : Hid ((goodB f && goodB g) = ok)) (ha : Hid ((goodB f && goodB g && (!diffF f g false && !diffF f g true)) = a)) (w : World) (lo hi lo' hi' : Nat) (hh : hi ≤ w.heap.size) (hh' : hi' ≤ w.heap.size) (hva : NodesZ w lo hi va f) (hvb : NodesZ w lo' hi' vb g) :
    Calls Try.prog 38 #[.agg #[va], .agg #[vb]] w fun e w' => e = .returned (.tuple #[.bool a, .bool ok]) ∧ Below w.heap.size w w' := by
  have HB0 := Lib.hid fun o o' => show Below w.heap.size w ((w.alloc o).alloc o') from ((Below.refl _ _).alloc (Nat.le_refl _) _).alloc (by simp) _
  obtain ⟨x, hx⟩ : ∃ x, (if goodB f && goodB g then codeOf (!diffF f g false) (!diffF f g true) else 0) = x := ⟨_, rfl⟩
  have hxa : (x == 4) = a := by
    rw [← hx, ← ha.out]
    cases (goodB f && goodB g) <;> cases diffF f g false <;> cases diffF f g true <;> rfl
  have C := Lib.hid fun (W : World) (hW : Below w.heap.size w W) => compareI_calls va vb f g x ok hok (Lib.hid hx) W lo hi lo' hi' (Nat.le_trans hh hW.size) (Nat.le_trans hh' hW.size) (hva.below hW hh) (hvb.below hW hh')
  clear hva hvb hx
  go_enter Try.func38, Try.ntmps38
  go_wp2_with fail
  refine (C.out _ (HB0.out _ _)).mono ?_
  rintro e w4 ⟨rfl, hb4⟩
  have HB4 := Lib.hid (Below.trans (HB0.out _ _) (hb4.mono (by simp; omega)))
  clear hb4
  go_wp2_with fail
  exact bodyPost_ret (v := .tuple #[.bool a, .bool ok]) (by simp [results, Try.results38, go_sem]) rfl ⟨rfl, HB4.out⟩

theorem infoNodeI : (Try.prog.info? 70).map (fun i => (i.zero, i.size, i.bytes)) = some (some (.agg #[.slice none 0 0, .slice none 0 0]), 2, 48) := by kernel_rfl

theorem nothing_made (w w1 : World) (hown : w1.ownsRow w.heap.size 70 2 (.slice (some ⟨(w.alloc (.cells #[.slice none 0 0] 26)).heap.size, 0, none⟩) 1 1) 1 (madeCells (Value.agg #[.slice none 0 0, .slice none 0 0]).cells (1 * 2)).toList)
    (hg : (w.alloc (.cells #[.slice none 0 0] 26)).grownBy w1 none) :
    w1.cell? ⟨w.heap.size, 0, none⟩ = some (.slice none 0 0) ∧ w1.frozen? ⟨w.heap.size, 0, none⟩ = false ∧
    Hid ((w1.setCell ⟨w.heap.size, 0, none⟩ (.slice (some ⟨w.heap.size + 1, 0, none⟩) 1 1)).cell? ⟨w.heap.size, 0, none⟩ = some (.slice (some ⟨w.heap.size + 1, 0, none⟩) 1 1) ∧ CopyOf (w1.setCell ⟨w.heap.size, 0, none⟩ (.slice (some ⟨w.heap.size + 1, 0, none⟩) 1 1)) (.slice (some ⟨w.heap.size + 1, 0, none⟩) 1 1) [([], [])]) ∧
    Hid (Below w.heap.size w (w1.setCell ⟨w.heap.size, 0, none⟩ (.slice (some ⟨w.heap.size + 1, 0, none⟩) 1 1))) := by
  have hs : (w.alloc (.cells #[.slice none 0 0] 26)).heap.size = w.heap.size + 1 := by simp
  rw [hs] at hown
  have hblk := hg.block w.heap.size (by rw [hs]; omega) (by simp)
  have h0 : w1.cell? ⟨w.heap.size, 0, none⟩ = some (.slice none 0 0) := (World.cell?_of_block (a := ⟨w.heap.size, 0, none⟩) hblk).trans (by go_simp)
  have hf : w1.frozen? ⟨w.heap.size, 0, none⟩ = false := (World.frozen?_of_block (a := ⟨w.heap.size, 0, none⟩) hblk).trans (by go_simp)
  have c0 : w1.cell? ⟨w.heap.size + 1, 0, none⟩ = some (.slice none 0 0) := (World.ownsRow.cellAt hown 0 (by omega)).trans (by simp [madeCells, Value.cells])
  have c1 : w1.cell? ⟨w.heap.size + 1, 1, none⟩ = some (.slice none 0 0) := (World.ownsRow.cellAt hown 1 (by omega)).trans (by simp [madeCells, Value.cells])
  have hb : Below w.heap.size w w1 := ((Below.refl _ _).alloc (Nat.le_refl _) _).grown hg (by simp) (fun k hk => by cases hk)
  have ho : ∀ o, (w1.setCell ⟨w.heap.size, 0, none⟩ (.slice (some ⟨w.heap.size + 1, 0, none⟩) 1 1)).cell? ⟨w.heap.size + 1, o, none⟩ = w1.cell? ⟨w.heap.size + 1, o, none⟩ := fun o => World.cell?_setCell_other _ _ _ _ (fun e => by injection e with e _ _; omega)
  have hlt := block_of_cell c0
  refine ⟨h0, hf, Lib.hid ⟨World.cell?_setCell_same _ _ _ h0, 0, _, Nat.le_refl _, some ⟨w.heap.size + 1, 0, none⟩, 1, rfl, ⟨by simp, by omega⟩, fun j nd hnd => ?_⟩, Lib.hid ⟨hb.os, hb.tape, hb.output, by simpa using hb.size, fun k hk => ?_⟩⟩
  · have hj : j = 0 := by have := get_lt hnd; simp at this; omega
    subst hj
    simp at hnd
    subst hnd
    have hnil : ∀ W lo hi, IntsZ W lo hi (.slice none 0 0) [] := fun W lo hi => ⟨none, 0, rfl, ⟨by simp, by omega⟩, fun j x hx => by simp at hx⟩
    exact ⟨w.heap.size + 1, 0, _, _, rfl, Nat.zero_le _, by simpa using hlt, (ho _).trans c0, (ho _).trans c1, hnil _ _ _, hnil _ _ _⟩
  · exact (Below.heap_setCell w1 ⟨w.heap.size, 0, none⟩ _ k (by simp; omega)).trans (hb.block k hk)

set_option maxRecDepth 100000 in
theorem nothing_calls (w : World) : Calls Try.prog 84 #[] w fun e w' => ∃ v, e = .returned (.agg #[v]) ∧ CopyOf w' v [([], [])] ∧ Below w.heap.size w w' := by
  obtain ⟨i0, hi0, hz0, hz1, hz2⟩ := info_parts infoNodeI
  go_enter Try.func84, Try.ntmps84
  go_wp2_with (at_make; refine wpList_make_full _ rfl _ _ 24 rfl w.heap.size 70 i0 (.agg #[.slice none 0 0, .slice none 0 0]) 2 Try.underlying24 hi0 hz0 hz1 _ _ _ _ 1 rfl rfl (by first | rfl | (simp; done)) (by first | rfl | (simp; done)) (by rw [hz2]; omega) (by unfold maxLen; omega) (by simp) ?_; intro w1 hown hg; obtain ⟨h0, hf, HN, HB⟩ := nothing_made w w1 hown hg; clear hown hg)
  exact bodyPost_ret (v := .agg #[.slice (some ⟨w.heap.size + 1, 0, none⟩) 1 1]) (by simp [results, Try.results84, go_sem, HN.out.1]) rfl ⟨_, rfl, HN.out.2, HB.out⟩

theorem good_zero : goodB [([], [])] = true := by decide
theorem diff_zero (f : List Nz) (l : Bool) : diffF f [([], [])] l = soloF (f.map downN) (f.length - 1) l := rfl

theorem held_below {w w1 : World} {P : Nat} {A B : List Nd} {va vb : Value} (h : Held w w1 P A B va vb) : Below w.heap.size w w1 := by obtain ⟨_, _, _, _, _, _, _, hb⟩ := h; exact hb

theorem held1 {w w' : World} {b : Nat} {v : Value} (h : w.cell? ⟨b, 0, none⟩ = some v) (hb : b < w.heap.size) (hB : Below w.heap.size w w') : w'.cell? ⟨b, 0, none⟩ = some v ∧ Below w.heap.size w w' := ⟨(bcell hB b 0 hb).trans h, hB⟩

theorem outcomeI_calls (va : Value) (f : List Nz) (x : Int) (ok : Bool) (hok : Hid (goodB f = ok)) (hx : Hid ((if goodB f then codeOf (!soloF (f.map downN) (f.length - 1) false) (!soloF (f.map downN) (f.length - 1) true) else 0) = x)) (w : World) (lo hi : Nat) (hh : hi ≤ w.heap.size) (hva : NodesZ w lo hi va f) :
    Calls Try.prog 42 #[.agg #[va]] w fun e w' => e = .returned (.tuple #[.int .i64 x, .bool ok]) ∧ Below w.heap.size w w' := by
  have HB0 := Lib.hid fun o => show Below w.heap.size w (w.alloc o) from ((Below.refl _ _).alloc (Nat.le_refl _) _)
  have C := Lib.hid fun (W : World) (vb : Value) (hW : Below w.heap.size w W) (hb : CopyOf W vb [([], [])]) => show Calls Try.prog 40 #[.agg #[va], .agg #[vb]] W fun e w' => e = .returned (.tuple #[.int .i64 x, .bool ok]) ∧ Below W.heap.size W w' from by
    obtain ⟨lo', hi', hh', hvb⟩ := hb
    exact compareI_calls va vb f [([], [])] x ok (Lib.hid (by rw [good_zero, Bool.and_true]; exact hok.out)) (Lib.hid (by rw [good_zero, Bool.and_true]; exact hx.out)) W lo hi lo' hi' (Nat.le_trans hh hW.size) hh' (hva.below hW hh) hvb
  clear hva hok hx
  go_enter Try.func42, Try.ntmps42
  have k0 : (w.alloc (.cells #[va] 26)).cell? ⟨w.heap.size, 0, none⟩ = some va := by go_simp
  have hS := HB0.out (.cells #[va] 26)
  have hlt0 := block_of_cell k0
  go_upto_region 1 with fail
  generalize (w.alloc (.cells #[va] 26)) = W1 at k0 hS hlt0
  have HS := Lib.hid hS
  have hbd : Below W1.heap.size W1 W1.drew := below_drewN (Below.refl _ _) 1
  have hS0 := held1 k0 hlt0 hbd
  clear hS HB0
  go_region_held3 (fun w' : World => w'.cell? ⟨w.heap.size, 0, none⟩ = some va ∧ Below W1.heap.size W1 w') (first | exact hS0 | (go_split_ands; exact ⟨‹_›, ‹_›⟩) | exact held1 k0 hlt0 hbB | exact held1 k0 hlt0 hbA) (first
    | (go_at_call 40; (with_reducible refine (C.out wa _ (HS.out.trans (hbA.mono HS.out.size)) hca).mono ?_); rintro e wb ⟨rfl, hbb⟩; have hbB := hbA.trans (hbb.mono hbA.size))
    | (go_at_call 84; (with_reducible refine (nothing_calls _).mono ?_); rintro e wa ⟨vz, rfl, hca, hba⟩; have hbA := hbd.trans (hba.mono hbd.size)))
  all_goals
    rename_i hH
    go_wp2_with fail
    exact bodyPost_ret (v := .tuple #[.int .i64 x, .bool ok]) (by simp [results, Try.results42, go_sem]) rfl ⟨rfl, HS.out.trans (hbB.mono HS.out.size)⟩

set_option maxHeartbeats 1000000 in
theorem winsMovingI_calls (va : Value) (f : List Nz) (l a ok : Bool) (hok : Hid (goodB f = ok)) (ha : Hid ((goodB f && soloF (f.map downN) (f.length - 1) l) = a)) (w : World) (lo hi : Nat) (hh : hi ≤ w.heap.size) (hva : NodesZ w lo hi va f) :
    Calls Try.prog 44 #[.agg #[va], .bool l] w fun e w' => e = .returned (.tuple #[.bool a, .bool ok]) ∧ Below w.heap.size w w' := by
  have HB0 := Lib.hid fun o => show Below w.heap.size w (w.alloc o) from ((Below.refl _ _).alloc (Nat.le_refl _) _)
  have HVA := Lib.hid fun (W : World) (hW : Below w.heap.size w W) => hva.below hW hh
  clear hva
  cases ok with
  | false =>
    obtain rfl : a = false := by rw [← ha.out, hok.out]; rfl
    have C := Lib.hid fun (W : World) (vb : Value) (hW : Below w.heap.size w W) (hb : CopyOf W vb [([], [])]) => show Calls Try.prog 78 #[.agg #[va], .agg #[vb]] W fun e w' => e = .returned (.tuple #[.pointer none, .bool false]) ∧ Below W.heap.size W w' from by
      obtain ⟨lo', hi', hh', hvb⟩ := hb
      exact contest_bad va vb f [([], [])] false true hok (Lib.hid good_zero) rfl W lo hi lo' hi' (Nat.le_trans hh hW.size) hh' (HVA.out W hW) hvb
    go_enter Try.func44, Try.ntmps44
    have k0 : (w.alloc (.cells #[va] 26)).cell? ⟨w.heap.size, 0, none⟩ = some va := by go_simp
    have hS := HB0.out (.cells #[va] 26)
    have hlt0 := block_of_cell k0
    go_upto_region 1 with fail
    generalize (w.alloc (.cells #[va] 26)) = W1 at k0 hS hlt0
    have HS := Lib.hid hS
    have hbd : Below W1.heap.size W1 W1.drew := below_drewN (Below.refl _ _) 1
    have hS0 := held1 k0 hlt0 hbd
    clear hS HB0 hok ha
    go_region_held3 (fun w' : World => w'.cell? ⟨w.heap.size, 0, none⟩ = some va ∧ Below W1.heap.size W1 w') (first | exact hS0 | (go_split_ands; exact ⟨‹_›, ‹_›⟩) | exact held1 k0 hlt0 hbB | exact held1 k0 hlt0 hbA) (first
      | (go_at_call 78; (with_reducible refine (C.out wa _ (HS.out.trans (hbA.mono HS.out.size)) hca).mono ?_); rintro e wb ⟨rfl, hbb⟩; have hbB := hbA.trans (hbb.mono hbA.size))
      | (go_at_call 84; (with_reducible refine (nothing_calls _).mono ?_); rintro e wa ⟨vz, rfl, hca, hba⟩; have hbA := hbd.trans (hba.mono hbd.size)))
    all_goals
      rename_i hH
      go_wp2_with fail
      exact bodyPost_ret (v := .tuple #[.bool false, .bool false]) (by simp [results, Try.results44, go_sem]) rfl ⟨rfl, HS.out.trans (hbB.mono HS.out.size)⟩
  | true =>
    have hg := hok.out
    have hr : soloF (f.map downN) (f.length - 1) l = a := by rw [← ha.out, hg]; rfl
    have C := Lib.hid fun (W : World) (vb : Value) (hW : Below w.heap.size w W) (hb : CopyOf W vb [([], [])]) => show Calls Try.prog 78 #[.agg #[va], .agg #[vb]] W fun e w' => ∃ P, e = .returned (.tuple #[.pointer (some ⟨P, 0, none⟩), .bool true]) ∧ Held W w' P (f.map downN) [([], [])] va vb from by
      obtain ⟨lo', hi', hh', hvb⟩ := hb
      exact contest_good va vb f [([], [])] hg good_zero W lo hi lo' hi' (Nat.le_trans hh hW.size) hh' (HVA.out W hW) hvb
    have CF := Lib.hid fun (W w1 : World) (P : Nat) (vb : Value) (h : Held W w1 P (f.map downN) [([], [])] va vb) => held_first (g := [([], [])]) h hg good_zero l a (Lib.hid hr)
    clear hg hr
    go_enter Try.func44, Try.ntmps44
    have k0 : (w.alloc (.cells #[va] 26)).cell? ⟨w.heap.size, 0, none⟩ = some va := by go_simp
    have hS := HB0.out (.cells #[va] 26)
    have hlt0 := block_of_cell k0
    go_upto_region 1 with fail
    generalize (w.alloc (.cells #[va] 26)) = W1 at k0 hS hlt0
    have HS := Lib.hid hS
    have hbd : Below W1.heap.size W1 W1.drew := below_drewN (Below.refl _ _) 1
    have hS0 := held1 k0 hlt0 hbd
    clear hS HB0 hok ha
    go_region_held3 (fun w' : World => w'.cell? ⟨w.heap.size, 0, none⟩ = some va ∧ Below W1.heap.size W1 w') (first | exact hS0 | (go_split_ands; exact ⟨‹_›, ‹_›⟩) | exact held1 k0 hlt0 hbB | exact held1 k0 hlt0 hbA) (first
      | (go_at_call 78; (with_reducible refine (C.out wa _ (HS.out.trans (hbA.mono HS.out.size)) hca).mono ?_); rintro e wb ⟨P, rfl, hH1⟩; have hbB := hbA.trans ((held_below hH1).mono hbA.size); have C2 := Lib.hid (CF.out wa wb P _ hH1))
      | (go_at_call 84; (with_reducible refine (nothing_calls _).mono ?_); rintro e wa ⟨vz, rfl, hca, hba⟩; have hbA := hbd.trans (hba.mono hbd.size)))
    all_goals
      rename_i hH
      have HBA : Hid (Below w.heap.size w wa) := Lib.hid (HS.out.trans (hbA.mono HS.out.size))
      clear hH hH1 hca CF C hbB hbA hba hbd hS0 k0
      go_wp2_with fail
      refine C2.out.mono ?_
      rintro e w5 ⟨rfl, hb5⟩
      have HB5 := Lib.hid (HBA.out.trans (hb5.mono HBA.out.size))
      clear hb5 C2
      go_wp2_with fail
      exact bodyPost_ret (v := .tuple #[.bool a, .bool true]) (by simp [results, Try.results44, go_sem]) rfl ⟨rfl, HB5.out⟩

end Go.Proofs.Ytlhpkoaegldjdaa
