/- The walk of laws.FnExactLessForm. -/
import Derived.Test.YtanjanckkgbnbaaFmLaw
import Derived.Test.YtanjanckkgbnbaaLsAll
namespace Go.Proofs.Ytanjanckkgbnbaa
open Go.RowKit
set_option linter.unusedVariables false
set_option linter.unusedSimpArgs false

theorem lessI_copy (v v' : Value) (f g : List Nz) (a : Bool) (r : Bool) (hr : Hid (lessV f g = a ∧ (goodB f && goodB g) = r)) (w : World) (h : CopyOf w v f) (h' : CopyOf w v' g) :
    Calls Try.prog 15 #[.agg #[v], .agg #[v']] w fun e w' => e = .returned (.tuple #[.bool a, .bool r]) ∧ Below w.heap.size w w' := by
  obtain ⟨lo, hi, hh, h⟩ := h
  obtain ⟨lo', hi', hh', h'⟩ := h'
  exact lessI_calls v v' f g a r (Lib.hid hr.out.2) (Lib.hid hr.out.1) w lo hi lo' hi' hh hh' h h'
theorem lessM_copy (v v' : Value) (f g : List Nz) (a : Bool) (r : Bool) (hr : Hid (lessV f g = a ∧ (goodB f && goodB g) = r)) (w : World) (h : CopyOf w v f) (h' : CopyOf w v' g) :
    Calls Try.prog 14 #[.agg #[v], .agg #[v']] w fun e w' => e = .returned (.tuple #[.bool a, .bool r]) ∧ Below w.heap.size w w' := by
  obtain ⟨lo, hi, hh, h⟩ := h
  obtain ⟨lo', hi', hh', h'⟩ := h'
  exact lessS_calls v v' f g a r (Lib.hid hr.out.2) (Lib.hid hr.out.1) w lo hi lo' hi' hh hh' h h'

set_option maxRecDepth 100000 in
set_option maxHeartbeats 4000000 in
theorem fnExactLessForm_walk (u u' : Value) (f g : List Nz) (w : World) (hu : CopyOf w u f) (hu' : CopyOf w u' g) :
    Calls Try.prog 4 #[.agg #[u], .agg #[u']] w fun e w' => e = .returned (.bool true) ∧ Below w.heap.size w w' := by
  have HU := Lib.hid fun W (hW : Below w.heap.size w W) => hu.below hW
  have HU' := Lib.hid fun W (hW : Below w.heap.size w W) => hu'.below hW
  have CZ := Lib.hid fun W (hW : Below w.heap.size w W) => szForm_copy u f W 1048576 (by omega) (by omega) (hu.below hW)
  have CZ' := Lib.hid fun W (hW : Below w.heap.size w W) (m : Int) (h0 : 0 ≤ m) (h1 : m ≤ 1048576) => szForm_copy u' g W m h0 h1 (hu'.below hW)
  clear hu hu'
  have m1b : leftOf 1048576 (szNs f) ≤ 1048576 := by unfold leftOf; split <;> omega
  have HS : Hid (0 ≤ leftOf 1048576 (szNs f) → szNs f ≤ 1048576) := Lib.hid (fun h => by have := leftOf_neg 1048576 (szNs f) (by omega); omega)
  have HS' : Hid (∀ m : Int, 0 ≤ m → m ≤ 1048576 → 0 ≤ leftOf m (szNs g) → szNs g ≤ 1048576) := Lib.hid (fun m h0 h1 h => by have := leftOf_neg m (szNs g) h0; omega)
  generalize leftOf 1048576 (szNs f) = m1 at CZ m1b HS
  have HB0 : Hid (Below w.heap.size w ((w.alloc (.cells #[u] 24)).alloc (.cells #[u'] 24))) := Lib.hid (((Below.refl _ _).alloc (Nat.le_refl _) _).alloc (by simp) _)
  go_enter Try.func4, Try.ntmps4
  go_wp2_with fail
  refine (CZ.out _ HB0.out).mono ?_
  rintro e w1 ⟨rfl, hb⟩
  have k1 : w1.cell? ⟨w.heap.size, 0, none⟩ = some u := (bcell hb _ _ (by simp; omega)).trans (by go_simp)
  have k2 : w1.cell? ⟨w.heap.size + 1, 0, none⟩ = some u' := (bcell hb _ _ (by simp)).trans (by go_simp)
  have HB1 : Hid (Below w.heap.size w w1) := Lib.hid (HB0.out.trans (hb.mono (by simp; omega)))
  clear hb
  by_cases hn : m1 < 0
  · go_wp2_with fail
    go_ret
    exact ⟨rfl, HB1.out⟩
  have hm0 : 0 ≤ m1 := by omega
  have hf : Hid (szNs f ≤ 1048576) := Lib.hid (HS.out hm0)
  have CT := Lib.hid fun W (hW : Below w.heap.size w W) => toForm_copy u f W (HU.out W hW) hf.out
  have CZ2 := Lib.hid fun W hW => CZ'.out W hW m1 hm0 m1b
  have HS2 := Lib.hid (HS'.out m1 hm0 m1b)
  clear HS HS' CZ CZ'
  generalize leftOf m1 (szNs g) = m2 at CZ2 HS2
  go_wp2_with fail
  refine (CZ2.out _ HB1.out).mono ?_
  rintro e w2 ⟨rfl, hb⟩
  have b1 := block_of_cell k1
  have b2 := block_of_cell k2
  have k1 := (bcell hb _ _ b1).trans k1
  have k2 := (bcell hb _ _ b2).trans k2
  have HB2 : Hid (Below w.heap.size w w2) := Lib.hid (HB1.out.trans (hb.mono HB1.out.size))
  clear hb b1 b2
  by_cases hn2 : m2 < 0
  · go_wp2_with fail
    go_ret
    exact ⟨rfl, HB2.out⟩
  have hm2 : 0 ≤ m2 := by omega
  have hg : Hid (szNs g ≤ 1048576) := Lib.hid (HS2.out hm2)
  have CT' := Lib.hid fun W (hW : Below w.heap.size w W) => toForm_copy u' g W (HU'.out W hW) hg.out
  clear HS2 CZ2
  obtain ⟨r, hr⟩ : ∃ r, (goodB f && goodB g) = r := ⟨_, rfl⟩
  obtain ⟨a, ha⟩ : ∃ a : Bool, lessV f g = a := ⟨_, rfl⟩
  have HR := Lib.hid (And.intro ha hr)
  clear hr ha
  have q1 : (a != a) = false := by simp
  have q2 : (r != r) = false := by simp
  have b1 := block_of_cell k1
  have b2 := block_of_cell k2
  have hS0 := twoL_start k1 k2
  have HBW := Lib.hid fun W (hW : Below w2.heap.size w2 W) => HB2.out.trans (hW.mono HB2.out.size)
  go_upto_region 1 with fail
  go_cut [6, 7] (fun s6 s7 wx => s6 = .bool a ∧ s7 = .bool r ∧ TwoL w2 w.heap.size (w.heap.size + 1) u u' wx)
  case first =>
    go_region_held3 (fun w' : World => w'.cell? ⟨w.heap.size, 0, none⟩ = some u ∧ w'.cell? ⟨w.heap.size + 1, 0, none⟩ = some u' ∧ Below w2.heap.size w2 w') (first | exact hS0 | (go_split_ands; exact ⟨‹_›, ‹_›, ‹_›⟩) | (go_split_ands; exact twoL_next b1 b2 hbc ⟨‹_›, ‹_›, ‹_›⟩) | (go_split_ands; exact twoL_next b1 b2 hbb ⟨‹_›, ‹_›, ‹_›⟩) | (go_split_ands; exact twoL_next b1 b2 hba ⟨‹_›, ‹_›, ‹_›⟩)) (first | (go_at_call 14; go_split_ands; refine (lessM_copy _ _ f g a r HR _ (by first | assumption | exact CopyOf.below (by assumption) hbb) (by assumption)).mono ?_; rintro e wc ⟨rfl, hbc⟩) | (go_at_call 9; go_split_ands; (with_reducible refine (CT.out _ (HBW.out _ (by assumption))).mono ?_); rintro e wa ⟨a1, n1, c1, rfl, hx1, hba⟩) | (go_at_call 9; go_split_ands; (with_reducible refine (CT'.out _ (HBW.out _ (by assumption))).mono ?_); rintro e wb ⟨a2, n2, c2, rfl, hx2, hbb⟩))
    all_goals
      rename_i hH
      go_wp2_with fail
      go_meet
      exact ⟨rfl, rfl, hH⟩
  case rest =>
    obtain ⟨rfl, rfl, hT⟩ := hcut
    obtain ⟨k1, k2, hbw⟩ := hT
    have HBc := Lib.hid (HBW.out _ hbw)
    have b1 := block_of_cell k1
    have b2 := block_of_cell k2
    clear hbw hS0 HBW
    go_wp2_with fail
    refine (CT.out _ HBc.out).mono ?_
    rintro e w3 ⟨a1, n1, c1, rfl, hx, hb⟩
    have HX := Lib.hid hx
    have k1 := (bcell hb _ _ b1).trans k1
    have k2 := (bcell hb _ _ b2).trans k2
    have HB3 : Hid (Below w.heap.size w w3) := Lib.hid (HBc.out.trans (hb.mono HBc.out.size))
    have b1 := block_of_cell k1
    have b2 := block_of_cell k2
    clear hb hx
    go_wp2_with fail
    have HB3' : Hid (Below w3.heap.size w3 (w3.alloc (.cells #[.slice a1 n1 c1] 28))) := Lib.hid ((Below.refl _ _).alloc (Nat.le_refl _) _)
    refine (CT'.out _ (HB3.out.trans (HB3'.out.mono HB3.out.size))).mono ?_
    rintro e w4 ⟨a2, n2, c2, rfl, hx, hb⟩
    have HY := Lib.hid hx
    have k3 : w4.cell? ⟨w3.heap.size, 0, none⟩ = some (.slice a1 n1 c1) := (bcell hb _ _ (by simp)).trans (by go_simp)
    have k1 : w4.cell? ⟨w.heap.size, 0, none⟩ = some u := (bcell hb _ _ (by simp; omega)).trans ((bcell HB3'.out _ _ b1).trans k1)
    have k2 : w4.cell? ⟨w.heap.size + 1, 0, none⟩ = some u' := (bcell hb _ _ (by simp; omega)).trans ((bcell HB3'.out _ _ b2).trans k2)
    have HB34 : Hid (Below w3.heap.size w3 w4) := Lib.hid (HB3'.out.trans (hb.mono (by simp)))
    have HB4 : Hid (Below w.heap.size w w4) := Lib.hid (HB3.out.trans (HB34.out.mono HB3.out.size))
    have b1 := block_of_cell k1
    have b2 := block_of_cell k2
    have b3 := block_of_cell k3
    clear hb hx
    go_wp2_with fail
    have HB4' : Hid (Below w4.heap.size w4 (w4.alloc (.cells #[.slice a2 n2 c2] 28))) := Lib.hid ((Below.refl _ _).alloc (Nat.le_refl _) _)
    refine (lessI_copy _ _ f g a r HR _ (CopyOf.below (HX.out.below HB34.out) HB4'.out) (HY.out.below HB4'.out)).mono ?_
    rintro e w5 ⟨rfl, hb⟩
    have k4 : w5.cell? ⟨w4.heap.size, 0, none⟩ = some (.slice a2 n2 c2) := (bcell hb _ _ (by simp)).trans (by go_simp)
    have k1 : w5.cell? ⟨w.heap.size, 0, none⟩ = some u := (bcell hb _ _ (by simp; omega)).trans ((bcell HB4'.out _ _ b1).trans k1)
    have k2 : w5.cell? ⟨w.heap.size + 1, 0, none⟩ = some u' := (bcell hb _ _ (by simp; omega)).trans ((bcell HB4'.out _ _ b2).trans k2)
    have k3 : w5.cell? ⟨w3.heap.size, 0, none⟩ = some (.slice a1 n1 c1) := (bcell hb _ _ (by simp; omega)).trans ((bcell HB4'.out _ _ b3).trans k3)
    have HB45 : Hid (Below w4.heap.size w4 w5) := Lib.hid (HB4'.out.trans (hb.mono (by simp)))
    have HB5 : Hid (Below w.heap.size w w5) := Lib.hid (HB4.out.trans (HB45.out.mono HB4.out.size))
    have HX5 := Lib.hid ((HX.out.below HB34.out).below HB45.out)
    have HY5 := Lib.hid (HY.out.below HB45.out)
    have HXW := Lib.hid fun W (hW : Below w5.heap.size w5 W) => HX5.out.below hW
    have HYW := Lib.hid fun W (hW : Below w5.heap.size w5 W) => HY5.out.below hW
    clear hb HB3' HB4' HB34 HB45 HX HY HX5 HY5
    have b1 := block_of_cell k1
    have b2 := block_of_cell k2
    have b3 := block_of_cell k3
    have b4 := block_of_cell k4
    have hS0 := fourL_start k1 k2 k3 k4
    have HBW5 := Lib.hid fun W (hW : Below w5.heap.size w5 W) => HB5.out.trans (hW.mono HB5.out.size)
    go_upto_region 2 with fail
    go_cut [52] (fun s52 wx => s52 = .bool false ∧ FourL w5 w.heap.size (w.heap.size + 1) w3.heap.size w4.heap.size u u' (.slice a1 n1 c1) (.slice a2 n2 c2) wx)
    case first =>
      go_region_held3 (fun w' : World => w'.cell? ⟨w.heap.size, 0, none⟩ = some u ∧ w'.cell? ⟨w.heap.size + 1, 0, none⟩ = some u' ∧ w'.cell? ⟨w3.heap.size, 0, none⟩ = some (.slice a1 n1 c1) ∧ w'.cell? ⟨w4.heap.size, 0, none⟩ = some (.slice a2 n2 c2) ∧ Below w5.heap.size w5 w') (first | exact hS0 | (go_split_ands; exact ⟨‹_›, ‹_›, ‹_›, ‹_›, ‹_›⟩) | (go_split_ands; exact fourL_next b1 b2 b3 b4 hbc ⟨‹_›, ‹_›, ‹_›, ‹_›, ‹_›⟩) | (go_split_ands; exact fourL_next b1 b2 b3 b4 hba ⟨‹_›, ‹_›, ‹_›, ‹_›, ‹_›⟩)) (first | (go_at_call 11; go_split_ands; refine (eqForm_copy _ _ _ _ (CopyOf.below (HXW.out _ (by assumption)) hba) (by assumption)).mono ?_; rintro e wc ⟨rfl, hbc⟩) | (go_at_call 9; go_split_ands; (with_reducible refine (CT.out _ (HBW5.out _ (by assumption))).mono ?_); rintro e wa ⟨a3, n3, c3, rfl, hx1, hba⟩))
      all_goals
        rename_i hH
        go_wp2_with fail
        go_meet
        exact ⟨rfl, hH⟩
    case rest =>
      obtain ⟨rfl, hT⟩ := hcut
      have hS0 := fourL_drew hT
      obtain ⟨k1, k2, k3, k4, hbw⟩ := hT
      have HBw := Lib.hid hbw
      clear hbw
      go_upto_region 3 with fail
      go_region_held3 (fun w' : World => w'.cell? ⟨w.heap.size, 0, none⟩ = some u ∧ w'.cell? ⟨w.heap.size + 1, 0, none⟩ = some u' ∧ w'.cell? ⟨w3.heap.size, 0, none⟩ = some (.slice a1 n1 c1) ∧ w'.cell? ⟨w4.heap.size, 0, none⟩ = some (.slice a2 n2 c2) ∧ Below w5.heap.size w5 w') (first | exact hS0 | (go_split_ands; exact ⟨‹_›, ‹_›, ‹_›, ‹_›, ‹_›⟩) | (go_split_ands; exact fourL_next b1 b2 b3 b4 hbc ⟨‹_›, ‹_›, ‹_›, ‹_›, ‹_›⟩) | (go_split_ands; exact fourL_next b1 b2 b3 b4 hba ⟨‹_›, ‹_›, ‹_›, ‹_›, ‹_›⟩)) (first | (go_at_call 11; go_split_ands; refine (eqForm_copy _ _ _ _ (CopyOf.below (HYW.out _ (by assumption)) hba) (by assumption)).mono ?_; rintro e wc ⟨rfl, hbc⟩) | (go_at_call 9; go_split_ands; (with_reducible refine (CT'.out _ (HBW5.out _ (by assumption))).mono ?_); rintro e wa ⟨a3, n3, c3, rfl, hx1, hba⟩))
      all_goals
        rename_i hH
        go_wp2_with fail
        go_ret
        exact ⟨rfl, HBW5.out _ hH.2.2.2.2⟩

end Go.Proofs.Ytanjanckkgbnbaa
