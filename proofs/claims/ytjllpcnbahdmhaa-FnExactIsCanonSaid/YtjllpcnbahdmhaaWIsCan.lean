/- The walk of laws.FnExactIsCanon. -/
import Derived.Test.YtjllpcnbahdmhaaFmLaw
import Derived.Test.YtjllpcnbahdmhaaIcAll
namespace Go.Proofs.Ytjllpcnbahdmhaa
open Go.RowKit
set_option linter.unusedVariables false
set_option linter.unusedSimpArgs false

theorem canI_copy (v : Value) (f : List Nz) (n r : Bool) (hr : Hid (icV f = n ∧ goodB f = r)) (w : World) (h : CopyOf w v f) :
    Calls Try.prog 41 #[.agg #[v]] w fun e w' => e = .returned (.tuple #[.bool n, .bool r]) ∧ Below w.heap.size w w' := by
  obtain ⟨lo, hi, hh, h⟩ := h
  exact isCanon_calls v f r n (Lib.hid hr.out.2) (Lib.hid hr.out.1) w lo hi hh h
theorem canM_copy (v : Value) (f : List Nz) (n r : Bool) (hr : Hid (icV f = n ∧ goodB f = r)) (w : World) (h : CopyOf w v f) :
    Calls Try.prog 40 #[.agg #[v]] w fun e w' => e = .returned (.tuple #[.bool n, .bool r]) ∧ Below w.heap.size w w' := by
  obtain ⟨lo, hi, hh, h⟩ := h
  exact isCanonS_calls v f r n (Lib.hid hr.out.2) (Lib.hid hr.out.1) w lo hi hh h

set_option maxRecDepth 100000 in
set_option maxHeartbeats 4000000 in
theorem fnExactIsCanon_walk (u : Value) (f : List Nz) (w : World) (hu : CopyOf w u f) :
    Calls Try.prog 11 #[.agg #[u]] w fun e w' => e = .returned (.bool true) ∧ Below w.heap.size w w' := by
  have HU := Lib.hid fun W (hW : Below w.heap.size w W) => hu.below hW
  have CZ := Lib.hid fun W (hW : Below w.heap.size w W) => szForm_copy u f W 1048576 (by omega) (by omega) (hu.below hW)
  clear hu
  have HS : Hid (0 ≤ leftOf 1048576 (szNs f) → szNs f ≤ 1048576) := Lib.hid (fun h => by have := leftOf_neg 1048576 (szNs f) (by omega); omega)
  generalize leftOf 1048576 (szNs f) = m1 at CZ HS
  have HB0 : Hid (Below w.heap.size w (w.alloc (.cells #[u] 24))) := Lib.hid ((Below.refl _ _).alloc (Nat.le_refl _) _)
  go_enter Try.func11, Try.ntmps11
  go_wp2_with fail
  refine (CZ.out _ HB0.out).mono ?_
  rintro e w1 ⟨rfl, hb⟩
  have k1 : w1.cell? ⟨w.heap.size, 0, none⟩ = some u := (bcell hb _ _ (by simp)).trans (by go_simp)
  have HB1 : Hid (Below w.heap.size w w1) := Lib.hid (HB0.out.trans (hb.mono (by simp)))
  clear hb
  by_cases hn : m1 < 0
  · go_wp2_with fail
    go_ret
    exact ⟨rfl, HB1.out⟩
  have hm0 : 0 ≤ m1 := by omega
  have hf : Hid (szNs f ≤ 1048576) := Lib.hid (HS.out hm0)
  have CT := Lib.hid fun W (hW : Below w.heap.size w W) => toForm_copy u f W (HU.out W hW) hf.out
  clear HS CZ
  obtain ⟨r, hr⟩ : ∃ r, goodB f = r := ⟨_, rfl⟩
  obtain ⟨n, hn⟩ : ∃ n : Bool, icV f = n := ⟨_, rfl⟩
  have HR := Lib.hid (And.intro hn hr)
  clear hr hn
  have q1 : (n != n) = false := by simp
  have q2 : (r != r) = false := by simp
  have b1 := block_of_cell k1
  go_wp2_with fail
  refine (CT.out _ HB1.out).mono ?_
  rintro e w2 ⟨a0, n0, c0, rfl, hx0, hb⟩
  have HX := Lib.hid hx0
  have k1 := (bcell hb _ _ b1).trans k1
  have HB2 : Hid (Below w.heap.size w w2) := Lib.hid (HB1.out.trans (hb.mono HB1.out.size))
  have b1 := block_of_cell k1
  clear hb hx0
  go_wp2_with fail
  refine (canM_copy _ f n r HR _ HX.out).mono ?_
  rintro e w3 ⟨rfl, hb⟩
  have k1 := (bcell hb _ _ b1).trans k1
  have HB3 : Hid (Below w.heap.size w w3) := Lib.hid (HB2.out.trans (hb.mono HB2.out.size))
  have b1 := block_of_cell k1
  clear hb HX
  go_wp2_with fail
  refine (CT.out _ HB3.out).mono ?_
  rintro e w4 ⟨a1, n1, c1, rfl, hx, hb⟩
  have HX := Lib.hid hx
  have k1 := (bcell hb _ _ b1).trans k1
  have HB4 : Hid (Below w.heap.size w w4) := Lib.hid (HB3.out.trans (hb.mono HB3.out.size))
  have b1 := block_of_cell k1
  clear hb hx
  go_wp2_with fail
  have HB4' : Hid (Below w4.heap.size w4 (w4.alloc (.cells #[.slice a1 n1 c1] 28))) := Lib.hid ((Below.refl _ _).alloc (Nat.le_refl _) _)
  refine (canI_copy _ f n r HR _ (HX.out.below HB4'.out)).mono ?_
  rintro e w5 ⟨rfl, hb⟩
  have k2 : w5.cell? ⟨w4.heap.size, 0, none⟩ = some (.slice a1 n1 c1) := (bcell hb _ _ (by simp)).trans (by go_simp)
  have k1 : w5.cell? ⟨w.heap.size, 0, none⟩ = some u := (bcell hb _ _ (by simp; omega)).trans ((bcell HB4'.out _ _ b1).trans k1)
  have HB45 : Hid (Below w4.heap.size w4 w5) := Lib.hid (HB4'.out.trans (hb.mono (by simp)))
  have HB5 : Hid (Below w.heap.size w w5) := Lib.hid (HB4.out.trans (HB45.out.mono HB4.out.size))
  have HX5 := Lib.hid (HX.out.below HB45.out)
  have HXW := Lib.hid fun W (hW : Below w5.heap.size w5 W) => HX5.out.below hW
  have HBW5 := Lib.hid fun W (hW : Below w5.heap.size w5 W) => HB5.out.trans (hW.mono HB5.out.size)
  clear hb HB4' HB45 HX HX5
  have b1 := block_of_cell k1
  have b2 := block_of_cell k2
  have hS0 := twoL_start k1 k2
  first | go_upto_region 10 with fail | go_upto_region 3 with fail
  go_region_held3 (fun w' : World => w'.cell? ⟨w.heap.size, 0, none⟩ = some u ∧ w'.cell? ⟨w4.heap.size, 0, none⟩ = some (.slice a1 n1 c1) ∧ Below w5.heap.size w5 w') (first | exact hS0 | (go_split_ands; exact ⟨‹_›, ‹_›, ‹_›⟩) | (go_split_ands; exact twoL_next b1 b2 hbc ⟨‹_›, ‹_›, ‹_›⟩) | (go_split_ands; exact twoL_next b1 b2 hba ⟨‹_›, ‹_›, ‹_›⟩)) (first | (go_at_call 16; go_split_ands; refine (eqForm_copy _ _ _ _ (CopyOf.below (HXW.out _ (by assumption)) hba) (by assumption)).mono ?_; rintro e wc ⟨rfl, hbc⟩) | (go_at_call 14; go_split_ands; (with_reducible refine (CT.out _ (HBW5.out _ (by assumption))).mono ?_); rintro e wa ⟨a3, n3, c3, rfl, hx1, hba⟩))
  all_goals
    rename_i hH
    go_wp2_with fail
    go_ret
    exact ⟨rfl, HBW5.out _ hH.2.2⟩

end Go.Proofs.Ytjllpcnbahdmhaa
