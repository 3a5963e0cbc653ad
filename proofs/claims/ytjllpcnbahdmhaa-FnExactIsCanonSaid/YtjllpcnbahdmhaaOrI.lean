/- The program's contestOf, and the outcome of it. -/
import Derived.Test.YtjllpcnbahdmhaaOrAsk
import Derived.Test.YtjllpcnbahdmhaaFmGoodI
import Derived.Deep.Onto
namespace Go.Proofs.Ytjllpcnbahdmhaa
open Go.RowKit
set_option linter.unusedVariables false
set_option linter.unusedSimpArgs false

theorem goodI_res (v : Value) (f : List Nz) (r : Bool) (hr : Hid (goodB f = r)) (w : World) (lo hi : Nat) (hh : hi ≤ w.heap.size) (hv : NodesZ w lo hi v f) :
    Calls Try.prog 92 #[.agg #[v]] w fun e w' => e = .returned (.bool r) ∧ Below w.heap.size w w' := by
  rw [← hr.out]
  exact goodI_calls v f w lo hi hh hv

set_option maxRecDepth 100000 in
set_option maxHeartbeats 2000000 in
theorem contest_bad (va vb : Value) (f g : List Nz) (r1 r2 : Bool) (h1 : Hid (goodB f = r1)) (h2 : Hid (goodB g = r2)) (hb : (r1 && r2) = false) (w : World) (lo hi lo' hi' : Nat) (hh : hi ≤ w.heap.size) (hh' : hi' ≤ w.heap.size) (hva : NodesZ w lo hi va f) (hvb : NodesZ w lo' hi' vb g) :
    Calls Try.prog 59 #[.agg #[va], .agg #[vb]] w fun e w' => e = .returned (.tuple #[.pointer none, .bool false]) ∧ Below w.heap.size w w' := by
  have HB0 := Lib.hid fun o o' => show Below w.heap.size w ((w.alloc o).alloc o') from ((Below.refl _ _).alloc (Nat.le_refl _) _).alloc (by simp) _
  have CA := Lib.hid fun (W : World) (hW : Below w.heap.size w W) => goodI_res va f r1 h1 W lo hi (Nat.le_trans hh hW.size) (hva.below hW hh)
  have CB := Lib.hid fun (W : World) (hW : Below w.heap.size w W) => goodI_res vb g r2 h2 W lo' hi' (Nat.le_trans hh' hW.size) (hvb.below hW hh')
  clear h1 h2 hva hvb
  go_enter Try.func59, Try.ntmps59
  go_wp2_with fail
  refine (CA.out _ (HB0.out _ _)).mono ?_
  rintro e w4 ⟨rfl, hb4⟩
  have k2 : w4.cell? ⟨w.heap.size + 1, 0, none⟩ = some vb := (bcell hb4 _ _ (by simp)).trans (by go_simp)
  have HB4 := Lib.hid (Below.trans (HB0.out _ _) (hb4.mono (by simp; omega)))
  clear hb4 CA
  cases r1 with
  | false =>
    go_wp2_with fail
    exact bodyPost_ret (v := .tuple #[.pointer none, .bool false]) (by simp [results, Try.results59, go_sem]) rfl ⟨rfl, HB4.out⟩
  | true =>
    obtain rfl : r2 = false := by simpa using hb
    go_wp2_with fail
    refine (CB.out _ HB4.out).mono ?_
    rintro e w5 ⟨rfl, hb5⟩
    have HB5 := Lib.hid (HB4.out.trans (hb5.mono HB4.out.size))
    clear hb5
    go_wp2_with fail
    exact bodyPost_ret (v := .tuple #[.pointer none, .bool false]) (by simp [results, Try.results59, go_sem]) rfl ⟨rfl, HB5.out⟩

theorem zeros_wn (A B : List Nd) (n : Nat) (hn : n = 2 * (A.length * B.length)) : Wn A B (List.replicate n 0) := by rw [hn]; exact Wn.zero A B

/-- a contest that is there, from a world on -/
def Held (w w' : World) (P : Nat) (A B : List Nd) (va vb : Value) : Prop := ∃ g n cap cs, Ct w' w.heap.size P g n cap A B va vb ∧ Wn A B cs ∧ RowV w.heap.size g n cap cs w' ∧ Below w.heap.size w w'

set_option maxRecDepth 100000 in
set_option maxHeartbeats 2000000 in
theorem contest_good (va vb : Value) (f g : List Nz) (h1 : goodB f = true) (h2 : goodB g = true) (w : World) (lo hi lo' hi' : Nat) (hh : hi ≤ w.heap.size) (hh' : hi' ≤ w.heap.size) (hva : NodesZ w lo hi va f) (hvb : NodesZ w lo' hi' vb g) :
    Calls Try.prog 59 #[.agg #[va], .agg #[vb]] w fun e w' => ∃ P, e = .returned (.tuple #[.pointer (some ⟨P, 0, none⟩), .bool true]) ∧ Held w w' P (f.map downN) (g.map downN) va vb := by
  obtain ⟨hf1, hf2, _⟩ := (goodB_iff f).1 h1
  obtain ⟨hg1, hg2, _⟩ := (goodB_iff g).1 h2
  have HNA : Hid (NodesZ w 0 w.heap.size va ((f.map downN).map upN)) := Lib.hid (by rw [hf2.up.1]; exact hva.wide (Nat.zero_le _) hh)
  have HNB : Hid (NodesZ w 0 w.heap.size vb ((g.map downN).map upN)) := Lib.hid (by rw [hg2.up.1]; exact hvb.wide (Nat.zero_le _) hh')
  have HB0 := Lib.hid fun o o' => show Below w.heap.size w ((w.alloc o).alloc o') from ((Below.refl _ _).alloc (Nat.le_refl _) _).alloc (by simp) _
  have CA := Lib.hid fun (W : World) (hW : Below w.heap.size w W) => goodI_res va f true (Lib.hid h1) W lo hi (Nat.le_trans hh hW.size) (hva.below hW hh)
  have CB := Lib.hid fun (W : World) (hW : Below w.heap.size w W) => goodI_res vb g true (Lib.hid h2) W lo' hi' (Nat.le_trans hh' hW.size) (hvb.below hW hh')
  obtain ⟨aa, ca, rfl⟩ : ∃ ao c, va = .slice ao f.length c := by obtain ⟨ao, c, e, _⟩ := hva; exact ⟨ao, c, e⟩
  obtain ⟨ab, cb, rfl⟩ : ∃ ao c, vb = .slice ao g.length c := by obtain ⟨ao, c, e, _⟩ := hvb; exact ⟨ao, c, e⟩
  have la0 := hf1.1
  have la1 := hf1.2.1
  have lb0 := hg1.1
  have lb1 := hg1.2.1
  clear h1 h2 hva hvb hf1 hf2 hg1 hg2
  go_enter Try.func59, Try.ntmps59
  go_wp2_with fail
  refine (CA.out _ (HB0.out _ _)).mono ?_
  rintro e w4 ⟨rfl, hb4⟩
  have k1 : w4.cell? ⟨w.heap.size, 0, none⟩ = some (.slice aa f.length ca) := (bcell hb4 _ _ (by simp; omega)).trans (by go_simp)
  have k2 : w4.cell? ⟨w.heap.size + 1, 0, none⟩ = some (.slice ab g.length cb) := (bcell hb4 _ _ (by simp)).trans (by go_simp)
  have HB4 := Lib.hid (Below.trans (HB0.out _ _) (hb4.mono (by simp; omega)))
  clear hb4 CA
  have b1 := block_of_cell k1
  have b2 := block_of_cell k2
  go_wp2_with fail
  refine (CB.out _ HB4.out).mono ?_
  rintro e w5 ⟨rfl, hb5⟩
  have k1 := (bcell hb5 _ _ b1).trans k1
  have k2 := (bcell hb5 _ _ b2).trans k2
  have HB5 := Lib.hid (HB4.out.trans (hb5.mono HB4.out.size))
  clear hb5 b1 b2
  have hba : Below w5.heap.size w5 (w5.alloc (.cells #[.slice none 0 0, .slice none 0 0, .slice none 0 0] 92)) := (Below.refl _ _).alloc (Nat.le_refl _) _
  have d1 := (bcell hba _ _ (block_of_cell k1)).trans k1
  have d2 := (bcell hba _ _ (block_of_cell k2)).trans k2
  have p0 : (w5.alloc (.cells #[.slice none 0 0, .slice none 0 0, .slice none 0 0] 92)).cell? ⟨w5.heap.size, 0, none⟩ = some (.slice none 0 0) := by go_simp
  have p1 : (w5.alloc (.cells #[.slice none 0 0, .slice none 0 0, .slice none 0 0] 92)).cell? ⟨w5.heap.size, 1, none⟩ = some (.slice none 0 0) := by go_simp
  have p2 : (w5.alloc (.cells #[.slice none 0 0, .slice none 0 0, .slice none 0 0] 92)).cell? ⟨w5.heap.size, 2, none⟩ = some (.slice none 0 0) := by go_simp
  have q0 : (w5.alloc (.cells #[.slice none 0 0, .slice none 0 0, .slice none 0 0] 92)).frozen? ⟨w5.heap.size, 0, none⟩ = false := by go_simp
  have q1 : (w5.alloc (.cells #[.slice none 0 0, .slice none 0 0, .slice none 0 0] 92)).frozen? ⟨w5.heap.size, 1, none⟩ = false := by go_simp
  have q2 : (w5.alloc (.cells #[.slice none 0 0, .slice none 0 0, .slice none 0 0] 92)).frozen? ⟨w5.heap.size, 2, none⟩ = false := by go_simp
  have HB6 : Hid (Below w.heap.size w (w5.alloc (.cells #[.slice none 0 0, .slice none 0 0, .slice none 0 0] 92))) := Lib.hid (HB5.out.trans (hba.mono HB5.out.size))
  have hs6 : (w5.alloc (.cells #[.slice none 0 0, .slice none 0 0, .slice none 0 0] 92)).heap.size = w5.heap.size + 1 := by simp
  have hs5 := HB5.out.size
  have CS := Lib.hid (start_calls w5.heap.size (.bool true) (.bool true) _ _ aa ab f.length g.length ca cb _ p0 p1 p2 q0 q1 q2 la0 lb0 (by omega) (by omega))
  clear hba p0 p1 p2 q0 q1 q2 CB
  go_wp2_with fail
  refine CS.out.mono ?_
  rintro e w7 ⟨G, rfl, c0, c1, c2, hr, ho⟩
  have HH : Hid (Held w w7 w5.heap.size (f.map downN) (g.map downN) (.slice aa f.length ca) (.slice ab g.length cb)) := Lib.hid (by
    have hs7 := ho.size
    rw [hs6] at c2 hr hs7
    have hbx : Below w.heap.size w w7 := HB6.out.trans (ho.below (by rw [hs6]; omega) (fun b e => by omega))
    have el : 2 * (f.length * g.length) = 2 * ((f.map downN).length * (g.map downN).length) := by simp
    have hn := Below.sameIn (lo := 0) hbx (Nat.le_refl _)
    refine ⟨w5.heap.size + 1, _, G, _, ⟨c0, c1, c2, HNA.out.keep hn, HNB.out.keep hn, by omega, hr.lt.2, by omega⟩, zeros_wn _ _ _ el, World.ownsRow.mono hr (by omega), hbx⟩)
  clear c0 c1 c2 hr ho
  go_wp2_with fail
  exact bodyPost_ret (v := .tuple #[.pointer (some ⟨w5.heap.size, 0, none⟩), .bool true]) (by simp [results, Try.results59, go_sem]) rfl ⟨_, rfl, HH.out⟩

theorem held_outcome {w w1 : World} {P : Nat} {f g : List Nz} {va vb : Value} (h : Held w w1 P (f.map downN) (g.map downN) va vb) (h1 : goodB f = true) (h2 : goodB g = true) (r l : Bool) (hl : Hid (winF (f.map downN) (g.map downN) (f.length - 1) (g.length - 1) true = l)) (hr : Hid (winF (f.map downN) (g.map downN) (f.length - 1) (g.length - 1) false = r)) :
    Calls Try.prog 72 #[.pointer (some ⟨P, 0, none⟩)] w1 fun e w' => e = .returned (.int .i64 (codeOf (!r) (!l))) ∧ Below w.heap.size w w' := by
  obtain ⟨gg, n, cap, cs, hc, hw, hrow, hb⟩ := h
  obtain ⟨hf1, hf2, _⟩ := (goodB_iff f).1 h1
  obtain ⟨hg1, hg2, _⟩ := (goodB_iff g).1 h2
  have e1 : (f.map downN).length = f.length := by simp
  have e2 : (g.map downN).length = g.length := by simp
  refine (outcome_calls w.heap.size P gg n cap (f.map downN) (g.map downN) va vb hf2.up.2.under hg2.up.2.under (by rw [e1]; have := hf1.2.1; omega) (by rw [e2]; have := hg1.2.1; omega) w1 (by rw [e1]; exact hf1.1) (by rw [e2]; exact hg1.1) hc cs hw hrow r l (by rw [e1, e2]; exact hl) (by rw [e1, e2]; exact hr)).mono ?_
  rintro e w' ⟨he, ha⟩
  exact ⟨he, hb.trans (ha.only.below hb.size (fun b e => by have := hc.hg; omega))⟩

end Go.Proofs.Ytjllpcnbahdmhaa
