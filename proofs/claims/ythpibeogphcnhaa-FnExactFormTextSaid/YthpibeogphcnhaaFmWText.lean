/- FormText: the model's, and the walk of laws.FnExactFormText. -/
import Derived.Test.YthpibeogphcnhaaFmLaw
import Derived.Test.YthpibeogphcnhaaFmFits
import Derived.Test.YthpibeogphcnhaaFmTextI
namespace Go.Proofs.Ythpibeogphcnhaa
set_option linter.unusedVariables false
set_option linter.unusedSimpArgs false
open Go.RowKit

theorem goodZ_used {f : List Nz} (h : GoodZ f) : Used (f.map downN) := h.2.2.2

set_option maxRecDepth 100000 in
set_option maxHeartbeats 2000000 in
theorem textS_calls (v : Value) (f : List Nz) (w : World) (lo hi : Nat) (hh : hi ≤ w.heap.size) (hv : NodesZ w lo hi v f) :
    Calls Try.prog 42 #[.agg #[v]] w fun e w' => e = .returned (.tuple #[.string ⟨(textV f).toArray⟩, .bool (goodB f && !longF (f.map downN))]) ∧ Below w.heap.size w w' := by
  have HV := Lib.hid hv
  have CG := Lib.hid fun (W : World) (hW : Below w.heap.size w W) => goodS_calls v f W lo hi (by have := hW.size; omega) (hv.below hW hh)
  obtain ⟨ao, c, rfl, hlm, _⟩ := hv
  have HB0 : Hid (Below w.heap.size w (w.alloc (.cells #[.slice ao f.length c] 26))) := Lib.hid ((Below.refl _ _).alloc (Nat.le_refl _) _)
  go_enter Try.func42, Try.ntmps42
  go_wp2_with fail
  refine (CG.out _ HB0.out).mono ?_
  rintro e w1 ⟨rfl, hb1⟩
  have hd1 : w1.cell? ⟨w.heap.size, 0, none⟩ = some (.slice ao f.length c) := (bcell hb1 _ 0 (by simp)).trans (by go_simp)
  have HB1 := Lib.hid (HB0.out.trans (hb1.mono (by simp)))
  clear hb1 CG
  cases hg : goodB f with
  | false =>
    have HG := Lib.hid hg
    have R : Hid (textV f = []) := Lib.hid (by unfold textV; rw [hg]; rfl)
    clear hg HV
    go_wp2
    exact bodyPost_ret (v := .tuple #[.string ⟨#[]⟩, .bool false]) (by simp [results, Try.results42, go_sem]) rfl ⟨by rw [R.out, HG.out]; rfl, HB1.out⟩
  | true =>
    have HG := Lib.hid hg
    have hG := (goodB_iff f).1 hg
    have hup := hG.2.1.up
    have hl0 := hG.1.1
    have hl1 := hG.1.2.1
    have hwl := block_of_cell hd1
    have hFl : (f.map downN).length = f.length := by simp
    have HC : ∀ nd ∈ f.map downN, nd.1.length ≤ 24 ∧ nd.2.length ≤ 24 := fun nd hnd => by
      obtain ⟨n0, h0, rfl⟩ := List.mem_map.1 hnd
      have := hG.1.2.2 n0 h0
      unfold downN downL
      simp
      omega
    have CT := Lib.hid fun W (hW : Below w.heap.size w W) => l3Text_calls (.slice ao f.length c) (f.map downN) W lo hi (by have := hW.size; omega) (by rw [hup.1]; exact HV.out.below hW hh) hup.2.under (by omega) (by omega) HC
    have HTL := Lib.hid (text_long hup.2.under (goodZ_used hG) (by omega))
    have HTS := Lib.hid fun (h : longF (f.map downN) = false) => text_same (f := f.map downN) h
    rw [hFl] at CT HTL
    have HTN : Hid (longF (f.map downN) = true → textV f = []) := Lib.hid (fun h => by unfold textV; rw [hg, h]; rfl)
    have HTV : Hid (longF (f.map downN) = false → textV f = (textsC (f.map downN)).getD (f.length - 1) []) := Lib.hid (fun h => by rw [HTS.out h]; unfold textV; rw [hg, h]; rfl)
    generalize (textsC (f.map downN)).getD (f.length - 1) [] = E at CT HTL HTV
    have hEs : (⟨E.toArray⟩ : ByteArray).size = E.length := by rw [bytes_size]
    clear hg hG hup hFl HC HTS HV
    go_wp2_with fail
    refine (CT.out w1 HB1.out).mono ?_
    rintro e w2 ⟨rfl, hb2⟩
    have hd2 := (bcell hb2 _ 0 hwl).trans hd1
    have HB2 := Lib.hid (HB1.out.trans (hb2.mono HB1.out.size))
    clear hb2
    by_cases hbig : 4000 < E.length
    · have q1 : (4000 : Int) < E.length := by omega
      have HL : Hid (longF (f.map downN) = true) := Lib.hid (by rw [← HTL.out]; simpa using hbig)
      go_wp2
      exact bodyPost_ret (v := .tuple #[.string ⟨#[]⟩, .bool false]) (by simp [results, Try.results42, go_sem]) rfl ⟨by rw [HTN.out HL.out, HL.out, HG.out]; rfl, HB2.out⟩
    · have q1 : ¬ (4000 : Int) < E.length := by omega
      have HL : Hid (longF (f.map downN) = false) := Lib.hid (by rw [← HTL.out]; simpa using hbig)
      go_wp2_with fail
      refine (CT.out w2 HB2.out).mono ?_
      rintro e w3 ⟨rfl, hb3⟩
      have HB3 := Lib.hid (HB2.out.trans (hb3.mono HB2.out.size))
      clear hb3
      go_wp2
      exact bodyPost_ret (v := .tuple #[.string ⟨E.toArray⟩, .bool true]) (by simp [results, Try.results42, go_sem]) rfl ⟨by rw [HTV.out HL.out, HL.out, HG.out]; rfl, HB3.out⟩

theorem textI_copy (v : Value) (f : List Nz) (n : ByteArray) (r : Bool) (hr : Hid ((⟨(textV f).toArray⟩ : ByteArray) = n ∧ (goodB f && !longF (f.map downN)) = r)) (w : World) (h : CopyOf w v f) :
    Calls Try.prog 43 #[.agg #[v]] w fun e w' => e = .returned (.tuple #[.string n, .bool r]) ∧ Below w.heap.size w w' := by
  obtain ⟨lo, hi, hh, h⟩ := h
  rw [← hr.out.1, ← hr.out.2]
  exact textI_calls v f w lo hi hh h
theorem textM_copy (v : Value) (f : List Nz) (n : ByteArray) (r : Bool) (hr : Hid ((⟨(textV f).toArray⟩ : ByteArray) = n ∧ (goodB f && !longF (f.map downN)) = r)) (w : World) (h : CopyOf w v f) :
    Calls Try.prog 42 #[.agg #[v]] w fun e w' => e = .returned (.tuple #[.string n, .bool r]) ∧ Below w.heap.size w w' := by
  obtain ⟨lo, hi, hh, h⟩ := h
  rw [← hr.out.1, ← hr.out.2]
  exact textS_calls v f w lo hi hh h

set_option maxRecDepth 100000 in
set_option maxHeartbeats 4000000 in
theorem fnExactFormText_walk (u : Value) (f : List Nz) (w : World) (hu : CopyOf w u f) :
    Calls Try.prog 12 #[.agg #[u]] w fun e w' => e = .returned (.bool true) ∧ Below w.heap.size w w' := by
  have HU := Lib.hid fun W (hW : Below w.heap.size w W) => hu.below hW
  have CZ := Lib.hid fun W (hW : Below w.heap.size w W) => szForm_copy u f W 1048576 (by omega) (by omega) (hu.below hW)
  clear hu
  have HS : Hid (0 ≤ leftOf 1048576 (szNs f) → szNs f ≤ 1048576) := Lib.hid (fun h => by have := leftOf_neg 1048576 (szNs f) (by omega); omega)
  generalize leftOf 1048576 (szNs f) = m1 at CZ HS
  have HB0 : Hid (Below w.heap.size w (w.alloc (.cells #[u] 42))) := Lib.hid ((Below.refl _ _).alloc (Nat.le_refl _) _)
  go_enter Try.func12, Try.ntmps12
  go_wp2_with fail
  refine (CZ.out _ HB0.out).mono ?_
  rintro e w1 ⟨rfl, hb⟩
  have k1 : w1.cell? ⟨w.heap.size, 0, none⟩ = some u := (bcell hb _ _ (by simp)).trans (by go_simp)
  have HB1 : Hid (Below w.heap.size w w1) := Lib.hid (HB0.out.trans (hb.mono (by simp)))
  clear hb
  by_cases hn : m1 < 0
  · go_wp2_with fail
    go_ret
    exact ⟨rfl, HB1.out⟩
  have hm0 : 0 ≤ m1 := by omega
  have hf : Hid (szNs f ≤ 1048576) := Lib.hid (HS.out hm0)
  have CT := Lib.hid fun W (hW : Below w.heap.size w W) => toForm_copy u f W (HU.out W hW) hf.out
  clear HS CZ
  obtain ⟨r, hr⟩ : ∃ r, (goodB f && !longF (f.map downN)) = r := ⟨_, rfl⟩
  obtain ⟨n, hn⟩ : ∃ n : ByteArray, (⟨(textV f).toArray⟩ : ByteArray) = n := ⟨_, rfl⟩
  have HR := Lib.hid (And.intro hn hr)
  clear hr hn

  have q2 : (r != r) = false := by simp
  have b1 := block_of_cell k1
  go_wp2_with fail
  refine (CT.out _ HB1.out).mono ?_
  rintro e w2 ⟨a0, n0, c0, rfl, hx0, hb⟩
  have HX := Lib.hid hx0
  have k1 := (bcell hb _ _ b1).trans k1
  have HB2 : Hid (Below w.heap.size w w2) := Lib.hid (HB1.out.trans (hb.mono HB1.out.size))
  have b1 := block_of_cell k1
  clear hb hx0
  go_wp2_with fail
  refine (textM_copy _ f n r HR _ HX.out).mono ?_
  rintro e w3 ⟨rfl, hb⟩
  have k1 := (bcell hb _ _ b1).trans k1
  have HB3 : Hid (Below w.heap.size w w3) := Lib.hid (HB2.out.trans (hb.mono HB2.out.size))
  have b1 := block_of_cell k1
  clear hb HX
  go_wp2_with fail
  refine (CT.out _ HB3.out).mono ?_
  rintro e w4 ⟨a1, n1, c1, rfl, hx, hb⟩
  have HX := Lib.hid hx
  have k1 := (bcell hb _ _ b1).trans k1
  have HB4 : Hid (Below w.heap.size w w4) := Lib.hid (HB3.out.trans (hb.mono HB3.out.size))
  have b1 := block_of_cell k1
  clear hb hx
  go_wp2_with fail
  have HB4' : Hid (Below w4.heap.size w4 (w4.alloc (.cells #[.slice a1 n1 c1] 26))) := Lib.hid ((Below.refl _ _).alloc (Nat.le_refl _) _)
  refine (textI_copy _ f n r HR _ (HX.out.below HB4'.out)).mono ?_
  rintro e w5 ⟨rfl, hb⟩
  have k2 : w5.cell? ⟨w4.heap.size, 0, none⟩ = some (.slice a1 n1 c1) := (bcell hb _ _ (by simp)).trans (by go_simp)
  have k1 : w5.cell? ⟨w.heap.size, 0, none⟩ = some u := (bcell hb _ _ (by simp; omega)).trans ((bcell HB4'.out _ _ b1).trans k1)
  have HB45 : Hid (Below w4.heap.size w4 w5) := Lib.hid (HB4'.out.trans (hb.mono (by simp)))
  have HB5 : Hid (Below w.heap.size w w5) := Lib.hid (HB4.out.trans (HB45.out.mono HB4.out.size))
  have HX5 := Lib.hid (HX.out.below HB45.out)
  have HXW := Lib.hid fun W (hW : Below w5.heap.size w5 W) => HX5.out.below hW
  have HBW5 := Lib.hid fun W (hW : Below w5.heap.size w5 W) => HB5.out.trans (hW.mono HB5.out.size)
  clear hb HB4' HB45 HX HX5
  have b1 := block_of_cell k1
  have b2 := block_of_cell k2
  have hS0 := twoL_start k1 k2
  go_upto_region 3 with fail
  go_region_held3 (fun w' : World => w'.cell? ⟨w.heap.size, 0, none⟩ = some u ∧ w'.cell? ⟨w4.heap.size, 0, none⟩ = some (.slice a1 n1 c1) ∧ Below w5.heap.size w5 w') (first | exact hS0 | (go_split_ands; exact ⟨‹_›, ‹_›, ‹_›⟩) | (go_split_ands; exact twoL_next b1 b2 hbc ⟨‹_›, ‹_›, ‹_›⟩) | (go_split_ands; exact twoL_next b1 b2 hba ⟨‹_›, ‹_›, ‹_›⟩)) (first | (go_at_call 28; go_split_ands; refine (eqForm_copy _ _ _ _ (CopyOf.below (HXW.out _ (by assumption)) hba) (by assumption)).mono ?_; rintro e wc ⟨rfl, hbc⟩) | (go_at_call 26; go_split_ands; (with_reducible refine (CT.out _ (HBW5.out _ (by assumption))).mono ?_); rintro e wa ⟨a3, n3, c3, rfl, hx1, hba⟩))
  all_goals
    rename_i hH
    go_wp2_with fail
    go_ret
    exact ⟨rfl, HBW5.out _ hH.2.2⟩

end Go.Proofs.Ythpibeogphcnhaa
