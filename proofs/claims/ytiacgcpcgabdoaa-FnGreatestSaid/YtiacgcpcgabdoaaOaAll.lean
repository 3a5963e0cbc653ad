/- The program's contestOf, and the outcome of it. -/
import Derived.Test.YtiacgcpcgabdoaaGgAll
import Derived.Test.YtiacgcpcgabdoaaFmGoodI
import Derived.Deep.Onto
import Derived.Test.YtiacgcpcgabdoaaOrMath
import Derived.Test.YtiacgcpcgabdoaaFmBase
import Derived.Test.YtiacgcpcgabdoaaFmLaw
namespace Go.Proofs.Ytiacgcpcgabdoaa
section
open Go.RowKit
set_option linter.unusedVariables false
set_option linter.unusedSimpArgs false

theorem goodI_res (v : Value) (f : List Nz) (r : Bool) (hr : Hid (goodB f = r)) (w : World) (lo hi : Nat) (hh : hi ≤ w.heap.size) (hv : NodesZ w lo hi v f) :
    Calls Try.prog 57 #[.agg #[v]] w fun e w' => e = .returned (.bool r) ∧ Below w.heap.size w w' := by
  rw [← hr.out]
  exact goodI_calls v f w lo hi hh hv

set_option maxRecDepth 100000 in
set_option maxHeartbeats 2000000 in
theorem contest_bad (va vb : Value) (f g : List Nz) (r1 r2 : Bool) (h1 : Hid (goodB f = r1)) (h2 : Hid (goodB g = r2)) (hb : (r1 && r2) = false) (w : World) (lo hi lo' hi' : Nat) (hh : hi ≤ w.heap.size) (hh' : hi' ≤ w.heap.size) (hva : NodesZ w lo hi va f) (hvb : NodesZ w lo' hi' vb g) :
    Calls Try.prog 33 #[.agg #[va], .agg #[vb]] w fun e w' => e = .returned (.tuple #[.pointer none, .bool false]) ∧ Below w.heap.size w w' := by
  have HB0 := Lib.hid fun o o' => show Below w.heap.size w ((w.alloc o).alloc o') from ((Below.refl _ _).alloc (Nat.le_refl _) _).alloc (by simp) _
  have CA := Lib.hid fun (W : World) (hW : Below w.heap.size w W) => goodI_res va f r1 h1 W lo hi (Nat.le_trans hh hW.size) (hva.below hW hh)
  have CB := Lib.hid fun (W : World) (hW : Below w.heap.size w W) => goodI_res vb g r2 h2 W lo' hi' (Nat.le_trans hh' hW.size) (hvb.below hW hh')
  clear h1 h2 hva hvb
  go_enter Try.func33, Try.ntmps33
  go_wp2_with fail
  refine (CA.out _ (HB0.out _ _)).mono ?_
  rintro e w4 ⟨rfl, hb4⟩
  have k2 : w4.cell? ⟨w.heap.size + 1, 0, none⟩ = some vb := (bcell hb4 _ _ (by simp)).trans (by go_simp)
  have HB4 := Lib.hid (Below.trans (HB0.out _ _) (hb4.mono (by simp; omega)))
  clear hb4 CA
  cases r1 with
  | false =>
    go_wp2_with fail
    exact bodyPost_ret (v := .tuple #[.pointer none, .bool false]) (by simp [results, Try.results33, go_sem]) rfl ⟨rfl, HB4.out⟩
  | true =>
    obtain rfl : r2 = false := by simpa using hb
    go_wp2_with fail
    refine (CB.out _ HB4.out).mono ?_
    rintro e w5 ⟨rfl, hb5⟩
    have HB5 := Lib.hid (HB4.out.trans (hb5.mono HB4.out.size))
    clear hb5
    go_wp2_with fail
    exact bodyPost_ret (v := .tuple #[.pointer none, .bool false]) (by simp [results, Try.results33, go_sem]) rfl ⟨rfl, HB5.out⟩

theorem zeros_wn (A B : List Nd) (n : Nat) (hn : n = 2 * (A.length * B.length)) : Wn A B (List.replicate n 0) := by rw [hn]; exact Wn.zero A B

/-- a contest that is there, from a world on -/
def Held (w w' : World) (P : Nat) (A B : List Nd) (va vb : Value) : Prop := ∃ g n cap cs, Ct w' w.heap.size P g n cap A B va vb ∧ Wn A B cs ∧ RowV w.heap.size g n cap cs w' ∧ Below w.heap.size w w'

set_option maxRecDepth 100000 in
set_option maxHeartbeats 2000000 in
theorem contest_good (va vb : Value) (f g : List Nz) (h1 : goodB f = true) (h2 : goodB g = true) (w : World) (lo hi lo' hi' : Nat) (hh : hi ≤ w.heap.size) (hh' : hi' ≤ w.heap.size) (hva : NodesZ w lo hi va f) (hvb : NodesZ w lo' hi' vb g) :
    Calls Try.prog 33 #[.agg #[va], .agg #[vb]] w fun e w' => ∃ P, e = .returned (.tuple #[.pointer (some ⟨P, 0, none⟩), .bool true]) ∧ Held w w' P (f.map downN) (g.map downN) va vb := by
  obtain ⟨hf1, hf2, _⟩ := (goodB_iff f).1 h1
  obtain ⟨hg1, hg2, _⟩ := (goodB_iff g).1 h2
  have HNA : Hid (NodesZ w 0 w.heap.size va ((f.map downN).map upN)) := Lib.hid (by rw [hf2.up.1]; exact hva.wide (Nat.zero_le _) hh)
  have HNB : Hid (NodesZ w 0 w.heap.size vb ((g.map downN).map upN)) := Lib.hid (by rw [hg2.up.1]; exact hvb.wide (Nat.zero_le _) hh')
  have HB0 := Lib.hid fun o o' => show Below w.heap.size w ((w.alloc o).alloc o') from ((Below.refl _ _).alloc (Nat.le_refl _) _).alloc (by simp) _
  have CA := Lib.hid fun (W : World) (hW : Below w.heap.size w W) => goodI_res va f true (Lib.hid h1) W lo hi (Nat.le_trans hh hW.size) (hva.below hW hh)
  have CB := Lib.hid fun (W : World) (hW : Below w.heap.size w W) => goodI_res vb g true (Lib.hid h2) W lo' hi' (Nat.le_trans hh' hW.size) (hvb.below hW hh')
  obtain ⟨aa, ca, rfl⟩ : ∃ ao c, va = .slice ao f.length c := by obtain ⟨ao, c, e, _⟩ := hva; exact ⟨ao, c, e⟩
  obtain ⟨ab, cb, rfl⟩ : ∃ ao c, vb = .slice ao g.length c := by obtain ⟨ao, c, e, _⟩ := hvb; exact ⟨ao, c, e⟩
  have la0 := hf1.1
  have la1 := hf1.2.1
  have lb0 := hg1.1
  have lb1 := hg1.2.1
  clear h1 h2 hva hvb hf1 hf2 hg1 hg2
  go_enter Try.func33, Try.ntmps33
  go_wp2_with fail
  refine (CA.out _ (HB0.out _ _)).mono ?_
  rintro e w4 ⟨rfl, hb4⟩
  have k1 : w4.cell? ⟨w.heap.size, 0, none⟩ = some (.slice aa f.length ca) := (bcell hb4 _ _ (by simp; omega)).trans (by go_simp)
  have k2 : w4.cell? ⟨w.heap.size + 1, 0, none⟩ = some (.slice ab g.length cb) := (bcell hb4 _ _ (by simp)).trans (by go_simp)
  have HB4 := Lib.hid (Below.trans (HB0.out _ _) (hb4.mono (by simp; omega)))
  clear hb4 CA
  have b1 := block_of_cell k1
  have b2 := block_of_cell k2
  go_wp2_with fail
  refine (CB.out _ HB4.out).mono ?_
  rintro e w5 ⟨rfl, hb5⟩
  have k1 := (bcell hb5 _ _ b1).trans k1
  have k2 := (bcell hb5 _ _ b2).trans k2
  have HB5 := Lib.hid (HB4.out.trans (hb5.mono HB4.out.size))
  clear hb5 b1 b2
  have hba : Below w5.heap.size w5 (w5.alloc (.cells #[.slice none 0 0, .slice none 0 0, .slice none 0 0] 73)) := (Below.refl _ _).alloc (Nat.le_refl _) _
  have d1 := (bcell hba _ _ (block_of_cell k1)).trans k1
  have d2 := (bcell hba _ _ (block_of_cell k2)).trans k2
  have p0 : (w5.alloc (.cells #[.slice none 0 0, .slice none 0 0, .slice none 0 0] 73)).cell? ⟨w5.heap.size, 0, none⟩ = some (.slice none 0 0) := by go_simp
  have p1 : (w5.alloc (.cells #[.slice none 0 0, .slice none 0 0, .slice none 0 0] 73)).cell? ⟨w5.heap.size, 1, none⟩ = some (.slice none 0 0) := by go_simp
  have p2 : (w5.alloc (.cells #[.slice none 0 0, .slice none 0 0, .slice none 0 0] 73)).cell? ⟨w5.heap.size, 2, none⟩ = some (.slice none 0 0) := by go_simp
  have q0 : (w5.alloc (.cells #[.slice none 0 0, .slice none 0 0, .slice none 0 0] 73)).frozen? ⟨w5.heap.size, 0, none⟩ = false := by go_simp
  have q1 : (w5.alloc (.cells #[.slice none 0 0, .slice none 0 0, .slice none 0 0] 73)).frozen? ⟨w5.heap.size, 1, none⟩ = false := by go_simp
  have q2 : (w5.alloc (.cells #[.slice none 0 0, .slice none 0 0, .slice none 0 0] 73)).frozen? ⟨w5.heap.size, 2, none⟩ = false := by go_simp
  have HB6 : Hid (Below w.heap.size w (w5.alloc (.cells #[.slice none 0 0, .slice none 0 0, .slice none 0 0] 73))) := Lib.hid (HB5.out.trans (hba.mono HB5.out.size))
  have hs6 : (w5.alloc (.cells #[.slice none 0 0, .slice none 0 0, .slice none 0 0] 73)).heap.size = w5.heap.size + 1 := by simp
  have hs5 := HB5.out.size
  have CS := Lib.hid (start_calls w5.heap.size (.bool true) (.bool true) _ _ aa ab f.length g.length ca cb _ p0 p1 p2 q0 q1 q2 la0 lb0 (by omega) (by omega))
  clear hba p0 p1 p2 q0 q1 q2 CB
  go_wp2_with fail
  refine CS.out.mono ?_
  rintro e w7 ⟨G, rfl, c0, c1, c2, hr, ho⟩
  have HH : Hid (Held w w7 w5.heap.size (f.map downN) (g.map downN) (.slice aa f.length ca) (.slice ab g.length cb)) := Lib.hid (by
    have hs7 := ho.size
    rw [hs6] at c2 hr hs7
    have hbx : Below w.heap.size w w7 := HB6.out.trans (ho.below (by rw [hs6]; omega) (fun b e => by omega))
    have el : 2 * (f.length * g.length) = 2 * ((f.map downN).length * (g.map downN).length) := by simp
    have hn := Below.sameIn (lo := 0) hbx (Nat.le_refl _)
    refine ⟨w5.heap.size + 1, _, G, _, ⟨c0, c1, c2, HNA.out.keep hn, HNB.out.keep hn, by omega, hr.lt.2, by omega⟩, zeros_wn _ _ _ el, World.ownsRow.mono hr (by omega), hbx⟩)
  clear c0 c1 c2 hr ho
  go_wp2_with fail
  exact bodyPost_ret (v := .tuple #[.pointer (some ⟨w5.heap.size, 0, none⟩), .bool true]) (by simp [results, Try.results33, go_sem]) rfl ⟨_, rfl, HH.out⟩

theorem held_outcome {w w1 : World} {P : Nat} {f g : List Nz} {va vb : Value} (h : Held w w1 P (f.map downN) (g.map downN) va vb) (h1 : goodB f = true) (h2 : goodB g = true) (r l : Bool) (hl : Hid (winF (f.map downN) (g.map downN) (f.length - 1) (g.length - 1) true = l)) (hr : Hid (winF (f.map downN) (g.map downN) (f.length - 1) (g.length - 1) false = r)) :
    Calls Try.prog 40 #[.pointer (some ⟨P, 0, none⟩)] w1 fun e w' => e = .returned (.int .i64 (codeOf (!r) (!l))) ∧ Below w.heap.size w w' := by
  obtain ⟨gg, n, cap, cs, hc, hw, hrow, hb⟩ := h
  obtain ⟨hf1, hf2, _⟩ := (goodB_iff f).1 h1
  obtain ⟨hg1, hg2, _⟩ := (goodB_iff g).1 h2
  have e1 : (f.map downN).length = f.length := by simp
  have e2 : (g.map downN).length = g.length := by simp
  refine (outcome_calls w.heap.size P gg n cap (f.map downN) (g.map downN) va vb hf2.up.2.under hg2.up.2.under (by rw [e1]; have := hf1.2.1; omega) (by rw [e2]; have := hg1.2.1; omega) w1 (by rw [e1]; exact hf1.1) (by rw [e2]; exact hg1.1) hc cs hw hrow r l (by rw [e1, e2]; exact hl) (by rw [e1, e2]; exact hr)).mono ?_
  rintro e w' ⟨he, ha⟩
  exact ⟨he, hb.trans (ha.only.below hb.size (fun b e => by have := hc.hg; omega))⟩
end

section
open Go.RowKit
set_option linter.unusedVariables false
set_option linter.unusedSimpArgs false

/-- who wins the difference of two games -/
def diffF (f g : List Nz) (l : Bool) : Bool := winF (f.map downN) (g.map downN) (f.length - 1) (g.length - 1) l

theorem held1 {w w' : World} {b : Nat} {v : Value} (h : w.cell? ⟨b, 0, none⟩ = some v) (hb : b < w.heap.size) (hB : Below w.heap.size w w') : w'.cell? ⟨b, 0, none⟩ = some v ∧ Below w.heap.size w w' := ⟨(bcell hB b 0 hb).trans h, hB⟩
end

section
open Go.RowKit
set_option linter.unusedVariables false
set_option linter.unusedSimpArgs false

theorem compareI_calls (va vb : Value) (f g : List Nz) (x : Int) (ok : Bool) (hok : Hid ((goodB f && goodB g) = ok)) (hx : Hid ((if goodB f && goodB g then codeOf (!diffF f g false) (!diffF f g true) else 0) = x)) (w : World) (lo hi lo' hi' : Nat) (hh : hi ≤ w.heap.size) (hh' : hi' ≤ w.heap.size) (hva : NodesZ w lo hi va f) (hvb : NodesZ w lo' hi' vb g) :
    Calls Try.prog 17 #[.agg #[va], .agg #[vb]] w fun e w' => e = .returned (.tuple #[.int .i64 x, .bool ok]) ∧ Below w.heap.size w w' := by
  have HB0 := Lib.hid fun o o' => show Below w.heap.size w ((w.alloc o).alloc o') from ((Below.refl _ _).alloc (Nat.le_refl _) _).alloc (by simp) _
  have HVA := Lib.hid fun (W : World) (hW : Below w.heap.size w W) => hva.below hW hh
  have HVB := Lib.hid fun (W : World) (hW : Below w.heap.size w W) => hvb.below hW hh'
  clear hva hvb
  cases ok with
  | false =>
    obtain rfl : x = 0 := by rw [← hx.out, hok.out]; rfl
    obtain ⟨r1, h1⟩ : ∃ r, goodB f = r := ⟨_, rfl⟩
    obtain ⟨r2, h2⟩ : ∃ r, goodB g = r := ⟨_, rfl⟩
    have hb : (r1 && r2) = false := by rw [← h1, ← h2]; exact hok.out
    have C := Lib.hid fun (W : World) (hW : Below w.heap.size w W) => contest_bad va vb f g r1 r2 (Lib.hid h1) (Lib.hid h2) hb W lo hi lo' hi' (Nat.le_trans hh hW.size) (Nat.le_trans hh' hW.size) (HVA.out W hW) (HVB.out W hW)
    clear h1 h2 hb
    go_enter Try.func17, Try.ntmps17
    go_wp2_with fail
    refine (C.out _ (HB0.out _ _)).mono ?_
    rintro e w4 ⟨rfl, hb4⟩
    have HB4 := Lib.hid (Below.trans (HB0.out _ _) (hb4.mono (by simp; omega)))
    clear hb4
    go_wp2_with fail
    exact bodyPost_ret (v := .tuple #[.int .i64 0, .bool false]) (by simp [results, Try.results17, go_sem]) rfl ⟨rfl, HB4.out⟩
  | true =>
    have hg := hok.out
    obtain ⟨l, hl⟩ : ∃ l, diffF f g true = l := ⟨_, rfl⟩
    obtain ⟨r, hr⟩ : ∃ r, diffF f g false = r := ⟨_, rfl⟩
    have HX : Hid (codeOf (!r) (!l) = x) := Lib.hid (by rw [← hx.out, hg, hl, hr]; rfl)
    rw [Bool.and_eq_true] at hg
    have C := Lib.hid fun (W : World) (hW : Below w.heap.size w W) => contest_good va vb f g hg.1 hg.2 W lo hi lo' hi' (Nat.le_trans hh hW.size) (Nat.le_trans hh' hW.size) (HVA.out W hW) (HVB.out W hW)
    have CF := Lib.hid fun (W w1 : World) (P : Nat) (h : Held W w1 P (f.map downN) (g.map downN) va vb) => held_outcome h hg.1 hg.2 r l (Lib.hid hl) (Lib.hid hr)
    rw [HX.out] at CF
    clear hg hl hr
    go_enter Try.func17, Try.ntmps17
    go_wp2_with fail
    refine (C.out _ (HB0.out _ _)).mono ?_
    rintro e w4 ⟨P, rfl, hH⟩
    have C2 := Lib.hid (CF.out _ w4 P hH)
    clear hH CF
    go_wp2_with fail
    refine C2.out.mono ?_
    rintro e w5 ⟨rfl, hb5⟩
    have HB5 := Lib.hid (Below.trans (HB0.out _ _) (hb5.mono (by simp; omega)))
    clear hb5 C2
    go_wp2_with fail
    exact bodyPost_ret (v := .tuple #[.int .i64 x, .bool true]) (by simp [results, Try.results17, go_sem]) rfl ⟨rfl, HB5.out⟩
end

section
open Go.RowKit Go.Lib
set_option linter.unusedVariables false
set_option linter.unusedSimpArgs false

set_option maxHeartbeats 1000000 in
theorem winsFirst_calls (base P g n cap : Nat) (A B : List Nd) (va vb : Value) (hA : Under A) (hB : Under B) (hAl : A.length ≤ 1000) (hBl : B.length ≤ 1000) (l : Bool) (w : World) (h0 : 0 < A.length) (h1 : 0 < B.length)
    (h : Ct w base P g n cap A B va vb) (cs : List Int) (hw : Wn A B cs) (hr : RowV base g n cap cs w) (r : Bool) (hres : Hid (winF A B (A.length - 1) (B.length - 1) l = r)) :
    Calls Try.prog 34 #[.pointer (some ⟨P, 0, none⟩), .bool l] w fun e w' => e = .returned (.bool r) ∧ Asked base g n cap A B w w' := by
  obtain ⟨a1, b1, rfl⟩ : ∃ ao c, va = .slice ao A.length c := by obtain ⟨ao, c, e, _⟩ := h.na; rw [List.length_map] at e; exact ⟨ao, c, e⟩
  obtain ⟨a2, b2, rfl⟩ : ∃ ao c, vb = .slice ao B.length c := by obtain ⟨ao, c, e, _⟩ := h.nb; rw [List.length_map] at e; exact ⟨ao, c, e⟩
  have k0 := h.c0
  have k1 := h.c1
  have hd : Below w.heap.size w w.drew := below_drewN (Below.refl w.heap.size w) 1
  have C := Lib.hid <| (wins_calls base P g n cap A B _ _ hA hB hAl hBl (A.length - 1 + (B.length - 1) + 1) (A.length - 1) (B.length - 1) l cs w.drew (by omega) (by omega) (by omega) (h.below hd) hw (hr.below hd)).mono fun e w' hp => (⟨by rw [← hres.out]; exact hp.1, Asked.trans ⟨cs, hw, hr.below hd, Only.of_below hd⟩ hp.2⟩ : e = .returned (.bool r) ∧ Asked base g n cap A B w w')
  have e1 : (A.length : Int) - 1 = ((A.length - 1 : Nat) : Int) := by omega
  have e2 : (B.length : Int) - 1 = ((B.length - 1 : Nat) : Int) := by omega
  have q1 : (A.length : Int) ≤ 1000 := by omega
  have q2 : (B.length : Int) ≤ 1000 := by omega
  have w1 : IntKind.i64.wrap ((A.length : Int) - 1) = ((A.length - 1 : Nat) : Int) := by rw [IntWalk.i64_in _ (by omega), e1]
  have w2 : IntKind.i64.wrap ((B.length : Int) - 1) = ((B.length - 1 : Nat) : Int) := by rw [IntWalk.i64_in _ (by omega), e2]
  clear h hw hr hres hA hB hd e1 e2
  go_enter Try.func34, Try.ntmps34
  go_wp2_with fail
  go_region_with (go_at_call 58; (with_reducible refine C.out.mono ?_); rintro e w4 ⟨rfl, ha⟩; have HA := Lib.hid ha; clear ha)
  all_goals
    go_wp2_with fail
    go_ret
    exact ⟨rfl, HA.out⟩

/-- what is asked of a contest, from a world on -/
theorem held_first {w w1 : World} {P : Nat} {f g : List Nz} {va vb : Value} (h : Held w w1 P (f.map downN) (g.map downN) va vb) (h1 : goodB f = true) (h2 : goodB g = true) (l r : Bool) (hr : Hid (winF (f.map downN) (g.map downN) (f.length - 1) (g.length - 1) l = r)) :
    Calls Try.prog 34 #[.pointer (some ⟨P, 0, none⟩), .bool l] w1 fun e w' => e = .returned (.bool r) ∧ Below w.heap.size w w' := by
  obtain ⟨gg, n, cap, cs, hc, hw, hrow, hb⟩ := h
  obtain ⟨hf1, hf2, _⟩ := (goodB_iff f).1 h1
  obtain ⟨hg1, hg2, _⟩ := (goodB_iff g).1 h2
  have e1 : (f.map downN).length = f.length := by simp
  have e2 : (g.map downN).length = g.length := by simp
  refine (winsFirst_calls w.heap.size P gg n cap (f.map downN) (g.map downN) va vb hf2.up.2.under hg2.up.2.under (by rw [e1]; have := hf1.2.1; omega) (by rw [e2]; have := hg1.2.1; omega) l w1 (by rw [e1]; exact hf1.1) (by rw [e2]; exact hg1.1) hc cs hw hrow r (by rw [e1, e2]; exact hr)).mono ?_
  rintro e w' ⟨he, ha⟩
  exact ⟨he, hb.trans (ha.only.below hb.size (fun b e => by have := hc.hg; omega))⟩
end

section
open Go.RowKit
set_option linter.unusedVariables false
set_option linter.unusedSimpArgs false

theorem atLeastI_calls (va vb : Value) (f g : List Nz) (a ok : Bool) (hok : Hid ((goodB f && goodB g) = ok)) (ha : Hid ((goodB f && goodB g && !diffF f g false) = a)) (w : World) (lo hi lo' hi' : Nat) (hh : hi ≤ w.heap.size) (hh' : hi' ≤ w.heap.size) (hva : NodesZ w lo hi va f) (hvb : NodesZ w lo' hi' vb g) :
    Calls Try.prog 11 #[.agg #[va], .agg #[vb]] w fun e w' => e = .returned (.tuple #[.bool a, .bool ok]) ∧ Below w.heap.size w w' := by
  have HB0 := Lib.hid fun o o' => show Below w.heap.size w ((w.alloc o).alloc o') from ((Below.refl _ _).alloc (Nat.le_refl _) _).alloc (by simp) _
  have HVA := Lib.hid fun (W : World) (hW : Below w.heap.size w W) => hva.below hW hh
  have HVB := Lib.hid fun (W : World) (hW : Below w.heap.size w W) => hvb.below hW hh'
  clear hva hvb
  cases ok with
  | false =>
    obtain rfl : a = false := by rw [← ha.out, hok.out]; rfl
    obtain ⟨r1, h1⟩ : ∃ r, goodB f = r := ⟨_, rfl⟩
    obtain ⟨r2, h2⟩ : ∃ r, goodB g = r := ⟨_, rfl⟩
    have hb : (r1 && r2) = false := by rw [← h1, ← h2]; exact hok.out
    have C := Lib.hid fun (W : World) (hW : Below w.heap.size w W) => contest_bad va vb f g r1 r2 (Lib.hid h1) (Lib.hid h2) hb W lo hi lo' hi' (Nat.le_trans hh hW.size) (Nat.le_trans hh' hW.size) (HVA.out W hW) (HVB.out W hW)
    clear h1 h2 hb
    go_enter Try.func11, Try.ntmps11
    go_wp2_with fail
    refine (C.out _ (HB0.out _ _)).mono ?_
    rintro e w4 ⟨rfl, hb4⟩
    have HB4 := Lib.hid (Below.trans (HB0.out _ _) (hb4.mono (by simp; omega)))
    clear hb4
    go_wp2_with fail
    exact bodyPost_ret (v := .tuple #[.bool false, .bool false]) (by simp [results, Try.results11, go_sem]) rfl ⟨rfl, HB4.out⟩
  | true =>
    have hg := hok.out
    rw [Bool.and_eq_true] at hg
    have ha2 : (!diffF f g false) = a := by rw [← ha.out, hg.1, hg.2]; rfl
    have hr : diffF f g false = !a := by rw [← ha2]; simp
    have C := Lib.hid fun (W : World) (hW : Below w.heap.size w W) => contest_good va vb f g hg.1 hg.2 W lo hi lo' hi' (Nat.le_trans hh hW.size) (Nat.le_trans hh' hW.size) (HVA.out W hW) (HVB.out W hW)
    have CF := Lib.hid fun (W w1 : World) (P : Nat) (h : Held W w1 P (f.map downN) (g.map downN) va vb) => held_first h hg.1 hg.2 false (!a) (Lib.hid hr)
    clear hg ha2 hr
    go_enter Try.func11, Try.ntmps11
    go_wp2_with fail
    refine (C.out _ (HB0.out _ _)).mono ?_
    rintro e w4 ⟨P, rfl, hH⟩
    have C2 := Lib.hid (CF.out _ w4 P hH)
    clear hH CF
    go_wp2_with fail
    refine C2.out.mono ?_
    rintro e w5 ⟨rfl, hb5⟩
    have HB5 := Lib.hid (Below.trans (HB0.out _ _) (hb5.mono (by simp; omega)))
    clear hb5 C2
    go_wp2_with fail
    exact bodyPost_ret (v := .tuple #[.bool a, .bool true]) (by simp [results, Try.results11, go_sem]) rfl ⟨rfl, HB5.out⟩
end

end Go.Proofs.Ytiacgcpcgabdoaa
