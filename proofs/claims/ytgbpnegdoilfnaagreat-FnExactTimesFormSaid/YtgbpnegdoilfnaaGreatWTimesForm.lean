/- The walk of laws.FnExactTimesForm. -/
import Derived.Test.YtgbpnegdoilfnaaGreatFmLaw
import Derived.Test.YtgbpnegdoilfnaaGreatFmToOwn
import Derived.Test.YtgbpnegdoilfnaaGreatFmHeld
import Derived.Test.YtgbpnegdoilfnaaGreatTmAll
namespace Go.Proofs.YtgbpnegdoilfnaaGreat
open Go.RowKit
set_option linter.unusedVariables false
set_option linter.unusedSimpArgs false

theorem TimesFormI_copy (n : Int) (v : Value) (f : List Nz) (r : Bool) (g : List Nz) (hr : Hid (tmV n f = g ∧ tmOk n f = r)) (w : World) (h : CopyOf w v f) :
    Calls Tryz.prog 17 #[.int .i64 n, .agg #[v]] w fun e w' => ∃ a c vs, e = .returned (.tuple #[.agg #[.slice a g.length c], .bool r]) ∧ OwnF w' w.heap.size (.slice a g.length c) vs g ∧ Below w.heap.size w w' := by
  obtain ⟨lo, hi, hh, h⟩ := h
  exact timesI_calls v n f g r (Lib.hid hr.out.2) (Lib.hid hr.out.1) w lo hi hh h
theorem TimesFormM_copy (n : Int) (v : Value) (f : List Nz) (r : Bool) (g : List Nz) (hr : Hid (tmV n f = g ∧ tmOk n f = r)) (w : World) (h : CopyOf w v f) :
    Calls Tryz.prog 15 #[.int .i64 n, .agg #[v]] w fun e w' => ∃ a c, e = .returned (.tuple #[.agg #[.slice a g.length c], .bool r]) ∧ NodesZ w' w.heap.size w'.heap.size (.slice a g.length c) g ∧ Below w.heap.size w w' := by
  obtain ⟨lo, hi, hh, h⟩ := h
  exact timesS_calls v n f g r (Lib.hid hr.out.2) (Lib.hid hr.out.1) w lo hi hh h

theorem toForm_ownC (v : Value) (f : List Nz) (w : World) (hv : CopyOf w v f) (hl : szNs f ≤ 1048576) :
    Calls Tryz.prog 16 #[.agg #[v]] w fun e w' => ∃ g vs, e = .returned (.agg #[.slice (some ⟨g, 0, none⟩) f.length f.length]) ∧ OwnF w' w.heap.size (.slice (some ⟨g, 0, none⟩) f.length f.length) vs f ∧ Below w.heap.size w w' := by
  obtain ⟨lo, hi, hh, h⟩ := hv
  exact toForm_own v f w lo hi hh h hl

theorem OwnF.copy {w : World} {base : Nat} {v : Value} {vs : List (Value × Value)} {f : List Nz} (h : OwnF w base v vs f) : CopyOf w v f := ⟨_, _, Nat.le_refl _, h.nodesZ⟩

theorem markF_sz (f : List Nz) (k : Int) : (markF f k).2 ≤ k + (szNs f : Int) := by
  rw [markF_end]
  unfold szNs
  omega

/-- a form read far from what is written -/
theorem NodesZ.only {w w' : World} {lo hi : Nat} {v : Value} {f : List Nz} {F : Nat → Prop} (h : NodesZ w lo hi v f) (hh : hi ≤ w.heap.size) (ho : Only w w' F) (hn : ∀ b, lo ≤ b → b < hi → ¬ F b) : NodesZ w' lo hi v f := h.keep (fun b o h1 h2 => ho.cell (by omega) (hn b h1 h2))

set_option maxRecDepth 100000 in
set_option maxHeartbeats 8000000 in
theorem fnExactTimesForm_walk (n : Int) (u : Value) (f : List Nz) (w : World) (hu : CopyOf w u f) :
    Calls Tryz.prog 4 #[.int .i64 n, .agg #[u]] w fun e w' => e = .returned (.bool true) ∧ Below w.heap.size w w' := by
  have HU := Lib.hid fun W (hW : Below w.heap.size w W) => hu.below hW
  have CZ := Lib.hid fun W (hW : Below w.heap.size w W) => szForm_copy u f W 1048576 (by omega) (by omega) (hu.below hW)
  clear hu
  have HS : Hid (0 ≤ leftOf 1048576 (szNs f) → szNs f ≤ 1048576) := Lib.hid (fun h => by have := leftOf_neg 1048576 (szNs f) (by omega); omega)
  generalize leftOf 1048576 (szNs f) = m1 at CZ HS
  have HB0 : Hid (Below w.heap.size w (w.alloc (.cells #[u] 38))) := Lib.hid ((Below.refl _ _).alloc (Nat.le_refl _) _)
  go_enter Tryz.func4, Tryz.ntmps4
  go_wp2_with fail
  refine (CZ.out _ HB0.out).mono ?_
  rintro e w1 ⟨rfl, hb⟩
  have k1 : w1.cell? ⟨w.heap.size, 0, none⟩ = some u := (bcell hb _ _ (by simp)).trans (by go_simp)
  have HB1 : Hid (Below w.heap.size w w1) := Lib.hid (HB0.out.trans (hb.mono (by simp)))
  clear hb
  by_cases hn : m1 < 0
  · go_wp2_with fail
    go_ret
    exact ⟨rfl, HB1.out⟩
  have hm0 : 0 ≤ m1 := by omega
  have hf : Hid (szNs f ≤ 1048576) := Lib.hid (HS.out hm0)
  have CT := Lib.hid fun W (hW : Below w.heap.size w W) => toForm_copy u f W (HU.out W hW) hf.out
  have CTO := Lib.hid fun W (hW : Below w.heap.size w W) => toForm_ownC u f W (HU.out W hW) hf.out
  clear HS CZ
  obtain ⟨r, hr⟩ : ∃ r, tmOk n f = r := ⟨_, rfl⟩
  obtain ⟨g, hms⟩ : ∃ gg : List Nz, tmV n f = gg := ⟨_, rfl⟩
  have hgz : (g.map szN).sum ≤ 5760 := by rw [← hms]; exact tmV_sz n f
  have HGZ := Lib.hid hgz
  have HR := Lib.hid (And.intro hms hr)
  clear hr hms hgz
  have q2 : (r != r) = false := by simp
  have b1 := block_of_cell k1
  go_wp2_with fail
  refine (CT.out _ HB1.out).mono ?_
  rintro e w2 ⟨a0, n0, c0, rfl, hx0, hb⟩
  have HX := Lib.hid hx0
  have k1 := (bcell hb _ _ b1).trans k1
  have HB2 : Hid (Below w.heap.size w w2) := Lib.hid (HB1.out.trans (hb.mono HB1.out.size))
  have b1 := block_of_cell k1
  clear hb hx0 HB1
  go_wp2_with fail
  refine (TimesFormM_copy n _ f r g HR _ HX.out).mono ?_
  rintro e w3 ⟨av, cv, rfl, hv0, hb⟩
  have HV0 := Lib.hid hv0
  have k1 := (bcell hb _ _ b1).trans k1
  have HB3 : Hid (Below w.heap.size w w3) := Lib.hid (HB2.out.trans (hb.mono HB2.out.size))
  have b1 := block_of_cell k1
  clear hb HX hv0 HB2
  go_wp2_with fail
  have HB3' : Hid (Below w3.heap.size w3 (w3.alloc (.cells #[.slice av g.length cv] 26))) := Lib.hid ((Below.refl _ _).alloc (Nat.le_refl _) _)
  refine (CTO.out _ (HB3.out.trans (HB3'.out.mono HB3.out.size))).mono ?_
  rintro e w4 ⟨gx, vs, rfl, hx, hb⟩
  have HX := Lib.hid (hx.mono (base' := w3.heap.size + 1) (by simp))
  have k3 : w4.cell? ⟨w3.heap.size, 0, none⟩ = some (.slice av g.length cv) := (bcell hb _ _ (by simp)).trans (by go_simp)
  have k1 : w4.cell? ⟨w.heap.size, 0, none⟩ = some u := (bcell hb _ _ (by simp; omega)).trans ((bcell HB3'.out _ _ b1).trans k1)
  have HB34 : Hid (Below w3.heap.size w3 w4) := Lib.hid (HB3'.out.trans (hb.mono (by simp)))
  have HV4 := Lib.hid (HV0.out.below HB34.out (Nat.le_refl _))
  have HB4 : Hid (Below w.heap.size w w4) := Lib.hid (HB3.out.trans (HB34.out.mono HB3.out.size))
  have hz34 := HB34.out.size
  have b1 := block_of_cell k1
  have b3 := block_of_cell k3
  clear hb hx HB3' HB34 HV0
  go_wp2_with fail
  have HB4' : Hid (Below w4.heap.size w4 (w4.alloc (.cells #[.slice (some ⟨gx, 0, none⟩) f.length f.length] 26))) := Lib.hid ((Below.refl _ _).alloc (Nat.le_refl _) _)
  refine (TimesFormI_copy n _ f r g HR _ (HX.out.copy.below HB4'.out)).mono ?_
  rintro e w5 ⟨ag, cg, vsg, rfl, hvg, hb⟩
  have k2 : w5.cell? ⟨w4.heap.size, 0, none⟩ = some (.slice (some ⟨gx, 0, none⟩) f.length f.length) := (bcell hb _ _ (by simp)).trans (by go_simp)
  have k1 : w5.cell? ⟨w.heap.size, 0, none⟩ = some u := (bcell hb _ _ (by simp; omega)).trans ((bcell HB4'.out _ _ b1).trans k1)
  have k3 : w5.cell? ⟨w3.heap.size, 0, none⟩ = some (.slice av g.length cv) := (bcell hb _ _ (by simp; omega)).trans ((bcell HB4'.out _ _ b3).trans k3)
  have HB45 : Hid (Below w4.heap.size w4 w5) := Lib.hid (HB4'.out.trans (hb.mono (by simp)))
  have HB5 : Hid (Below w.heap.size w w5) := Lib.hid (HB4.out.trans (HB45.out.mono HB4.out.size))
  have HX5 := Lib.hid (HX.out.below HB45.out)
  have HV5 := Lib.hid (HV4.out.below HB45.out (by omega))
  have HG5 : Hid (OwnF w5 (w4.heap.size + 1) (.slice ag g.length cg) vsg g) := Lib.hid (hvg.mono (by simp))
  have HBK : Hid (∀ b, BlkF vs b → w3.heap.size + 1 ≤ b ∧ b < w4.heap.size) := Lib.hid (fun b hb => HX.out.blk hb)
  have HBG : Hid (∀ b, BlkF vsg b → w4.heap.size + 1 ≤ b ∧ b < w5.heap.size) := Lib.hid (fun b hb => HG5.out.blk hb)
  have hz45 := HB45.out.size
  clear hb hvg HB4' HB45 HX HV4
  have b1 := block_of_cell k1
  have b2 := block_of_cell k2
  have b3 := block_of_cell k3
  have hba : Below w5.heap.size w5 (w5.alloc (.cells #[.slice ag g.length cg] 26)) := (Below.refl _ _).alloc (Nat.le_refl _) _
  have j1 := (bcell hba _ _ b1).trans k1
  have j2 := (bcell hba _ _ b2).trans k2
  have j3 := (bcell hba _ _ b3).trans k3
  have j4 : (w5.alloc (.cells #[.slice ag g.length cg] 26)).cell? ⟨w5.heap.size, 0, none⟩ = some (.slice ag g.length cg) := by go_simp
  have HXa := Lib.hid (HX5.out.below hba)
  have HGa := Lib.hid (HG5.out.below hba)
  have HVa := Lib.hid (HV5.out.below hba (by omega))
  have HBa : Hid (Below w.heap.size w (w5.alloc (.cells #[.slice ag g.length cg] 26))) := Lib.hid (HB5.out.trans (hba.mono HB5.out.size))
  have hza : (w5.alloc (.cells #[.slice ag g.length cg] 26)).heap.size = w5.heap.size + 1 := by simp
  have CE := Lib.hid (eqForm_copy _ _ g _ HGa.out.copy ⟨_, _, by omega, HVa.out⟩)
  clear HX5 HG5 HV5 HB5 hba k1 k2 k3
  go_wp2_with fail
  refine CE.out.mono ?_
  rintro e w6 ⟨rfl, hb⟩
  have k1 := (bcell hb _ _ (block_of_cell j1)).trans j1
  have k2 := (bcell hb _ _ (block_of_cell j2)).trans j2
  have k3 := (bcell hb _ _ (block_of_cell j3)).trans j3
  have k4 := (bcell hb _ _ (block_of_cell j4)).trans j4
  have HB6 : Hid (Below w.heap.size w w6) := Lib.hid (HBa.out.trans (hb.mono HBa.out.size))
  have HX6 := Lib.hid (HXa.out.below hb)
  have HG6 := Lib.hid (HGa.out.below hb)
  have HV6 := Lib.hid (HVa.out.below hb (by omega))
  have hz56 := hb.size
  rw [hza] at hz56
  clear hb HXa HGa HVa HBa CE j1 j2 j3 j4 hza
  have HXW := Lib.hid fun W (hW : Below w6.heap.size w6 W) => HX6.out.copy.below hW
  have HBW6 := Lib.hid fun W (hW : Below w6.heap.size w6 W) => HB6.out.trans (hW.mono HB6.out.size)
  have b1 := block_of_cell k1
  have b2 := block_of_cell k2
  have b3 := block_of_cell k3
  have b4 := block_of_cell k4
  have hS0 := twoL_start k1 k2
  go_upto_region 10 with fail
  go_cut [49] (fun s49 wx => s49 = .bool false ∧ TwoL w6 w.heap.size w4.heap.size u (.slice (some ⟨gx, 0, none⟩) f.length f.length) wx)
  case first =>
    go_region_held3 (fun w' : World => w'.cell? ⟨w.heap.size, 0, none⟩ = some u ∧ w'.cell? ⟨w4.heap.size, 0, none⟩ = some (.slice (some ⟨gx, 0, none⟩) f.length f.length) ∧ Below w6.heap.size w6 w') (first | exact hS0 | (go_split_ands; exact ⟨‹_›, ‹_›, ‹_›⟩) | (go_split_ands; exact twoL_next b1 b2 hbc ⟨‹_›, ‹_›, ‹_›⟩) | (go_split_ands; exact twoL_next b1 b2 hba ⟨‹_›, ‹_›, ‹_›⟩)) (first | (go_at_call 9; go_split_ands; refine (eqForm_copy _ _ _ _ (CopyOf.below (HXW.out _ (by assumption)) hba) (by assumption)).mono ?_; rintro e wc ⟨rfl, hbc⟩) | (go_at_call 16; go_split_ands; (with_reducible refine (CT.out _ (HBW6.out _ (by assumption))).mono ?_); rintro e wa ⟨a3, n3, c3, rfl, hx1, hba⟩))
    all_goals
      rename_i hH
      go_wp2_with fail
      go_meet
      exact ⟨rfl, hH⟩
  case rest =>
    obtain ⟨rfl, hT⟩ := hcut
    obtain ⟨k1, k2, hbw⟩ := hT
    have k3 := (bcell hbw _ _ b3).trans k3
    have k4 := (bcell hbw _ _ b4).trans k4
    have b1 := block_of_cell k1
    have b3 := block_of_cell k3
    have b4 := block_of_cell k4
    have HB7 := Lib.hid (HBW6.out _ hbw)
    have HX7 := Lib.hid (HX6.out.below hbw)
    have HV7 := Lib.hid (HV6.out.below hbw (by omega))
    have HG7 := Lib.hid (HG6.out.below hbw)
    have hz67 := hbw.size
    have hz3 := HB3.out.size
    have mk1 := markF_sz f 1
    have mk2 := hf.out
    have mk3 := (markF_le f 1 0)
    have mk4 : (1 : Int) ≤ (markF f 1).2 := by omega
    have mk5 : (markF f 1).2 ≤ 1000000000 := by omega
    have CM := Lib.hid (markForm_calls _ vs f 1 _ (w3.heap.size + 1) HX7.out (by omega) mk5)
    have mg1 := markF_end g 1
    have mg2 := HGZ.out
    have mg3 : (1 : Int) ≤ (markF g 1).2 := by omega
    have mg4 : (markF g 1).2 ≤ 1000000000 := by omega
    have CMG := Lib.hid fun W (h : OwnF W (w4.heap.size + 1) (.slice ag g.length cg) vsg g) => markForm_own _ vsg g 1 W (w4.heap.size + 1) h (by omega) mg4
    have CHG := Lib.hid fun W (h : OwnF W (w4.heap.size + 1) (.slice ag g.length cg) vsg (markF g 1).1) => heldForm_calls _ g 1 W _ _ (Nat.le_refl _) h.nodesZ (by omega) mg4
    clear hbw hS0 HBW6 HX6 HV6 HG6 HXW mk1 mk2 mk3 mg1 mg2
    generalize (markF f 1).2 = km at CM mk4 mk5
    generalize (markF g 1).2 = kg at CMG CHG mg3 mg4
    go_wp2_with fail
    refine CM.out.mono ?_
    rintro e w8 ⟨rfl, ho⟩
    have HB8 := Lib.hid (HB7.out.trans (ho.below HB7.out.size (fun g h => by have := HBK.out g h; omega)))
    have k1 := (ho.cell (o := 0) b1 (fun h => by have := HBK.out _ h; omega)).trans k1
    have k3 := (ho.cell (o := 0) b3 (fun h => by have := HBK.out _ h; omega)).trans k3
    have k4 := (ho.cell (o := 0) b4 (fun h => by have := HBK.out _ h; omega)).trans k4
    have HV8 := Lib.hid (HV7.out.only (by omega) ho (fun b h1 h2 h3 => by have := HBK.out b h3; omega))
    have HG8 := Lib.hid (HG7.out.only ho (fun b h1 h2 h3 => by have := HBK.out b h3; omega))
    have hz78 := ho.size
    have b1 := block_of_cell k1
    have b3 := block_of_cell k3
    have b4 := block_of_cell k4
    clear ho CM HV7 HG7 HX7 k2 b2
    go_wp2_with fail
    refine (eqForm_copy _ _ g _ HG8.out.copy ⟨_, _, by omega, HV8.out⟩).mono ?_
    rintro e w9 ⟨rfl, hb⟩
    have k1 := (bcell hb _ _ b1).trans k1
    have k3 := (bcell hb _ _ b3).trans k3
    have k4 := (bcell hb _ _ b4).trans k4
    have HB9 : Hid (Below w.heap.size w w9) := Lib.hid (HB8.out.trans (hb.mono HB8.out.size))
    have HV9 := Lib.hid (HV8.out.below hb (by omega))
    have HG9 := Lib.hid (HG8.out.below hb)
    have hz89 := hb.size
    have b1 := block_of_cell k1
    have b3 := block_of_cell k3
    have b4 := block_of_cell k4
    have CM2 := Lib.hid (CMG.out w9 HG9.out)
    clear hb HV8 HG8 CMG HG9
    go_wp2_with fail
    refine CM2.out.mono ?_
    rintro e w10 ⟨rfl, hg10, ho⟩
    have HB10 := Lib.hid (HB9.out.trans (ho.below HB9.out.size (fun g h => by have := HBG.out g h; have := HB4.out.size; omega)))
    have k1 := (ho.cell (o := 0) b1 (fun h => by have := HBG.out _ h; have := HB4.out.size; omega)).trans k1
    have k3 := (ho.cell (o := 0) b3 (fun h => by have := HBG.out _ h; omega)).trans k3
    have k4 := (ho.cell (o := 0) b4 (fun h => by have := HBG.out _ h; omega)).trans k4
    have HV10 := Lib.hid (HV9.out.only (by omega) ho (fun b h1 h2 h3 => by have := HBG.out b h3; omega))
    have HG10 := Lib.hid hg10
    have hz910 := ho.size
    have b1 := block_of_cell k1
    have b3 := block_of_cell k3
    have b4 := block_of_cell k4
    have CH1 := Lib.hid (CHG.out w10 hg10)
    clear ho hg10 HV9 CM2
    go_wp2_with fail
    refine CH1.out.mono ?_
    rintro e w11 ⟨rfl, hb⟩
    have k1 := (bcell hb _ _ b1).trans k1
    have k3 := (bcell hb _ _ b3).trans k3
    have k4 := (bcell hb _ _ b4).trans k4
    have HB11 : Hid (Below w.heap.size w w11) := Lib.hid (HB10.out.trans (hb.mono HB10.out.size))
    have HV11 := Lib.hid (HV10.out.below hb (by omega))
    have HG11 := Lib.hid (HG10.out.below hb)
    have hz1011 := hb.size
    have b3 := block_of_cell k3
    have b4 := block_of_cell k4
    clear hb HV10 HG10 CH1
    go_wp2_with fail
    refine (CT.out _ HB11.out).mono ?_
    rintro e w12 ⟨a5, n5, c5, rfl, hx5, hb⟩
    have HX := Lib.hid hx5
    have k3 := (bcell hb _ _ b3).trans k3
    have k4 := (bcell hb _ _ b4).trans k4
    have HB12 : Hid (Below w.heap.size w w12) := Lib.hid (HB11.out.trans (hb.mono HB11.out.size))
    have HV12 := Lib.hid (HV11.out.below hb (by omega))
    have HG12 := Lib.hid (HG11.out.below hb)
    have hz1112 := hb.size
    have b3 := block_of_cell k3
    have b4 := block_of_cell k4
    clear hb hx5 HV11 HG11
    go_wp2_with fail
    refine (TimesFormI_copy n _ f r g HR _ HX.out).mono ?_
    rintro e w13 ⟨ah, ch, vsh, rfl, hvh, hb⟩
    have k3 := (bcell hb _ _ b3).trans k3
    have k4 := (bcell hb _ _ b4).trans k4
    have HB13 : Hid (Below w.heap.size w w13) := Lib.hid (HB12.out.trans (hb.mono HB12.out.size))
    have HV13 := Lib.hid (HV12.out.below hb (by omega))
    have HG13 := Lib.hid (HG12.out.below hb)
    have HH13 := Lib.hid hvh
    have hz1213 := hb.size
    have b3 := block_of_cell k3
    have b4 := block_of_cell k4
    clear hb hvh HV12 HG12 HX
    have hba : Below w13.heap.size w13 (w13.alloc (.cells #[.slice ah g.length ch] 26)) := (Below.refl _ _).alloc (Nat.le_refl _) _
    have hza : (w13.alloc (.cells #[.slice ah g.length ch] 26)).heap.size = w13.heap.size + 1 := by simp
    have j3 := (bcell hba _ _ b3).trans k3
    have j4 := (bcell hba _ _ b4).trans k4
    have HB13a : Hid (Below w.heap.size w (w13.alloc (.cells #[.slice ah g.length ch] 26))) := Lib.hid (HB13.out.trans (hba.mono HB13.out.size))
    have HG13a := Lib.hid (HG13.out.below hba)
    have CE2 := Lib.hid (eqForm_copy _ _ g _ (HH13.out.below hba).copy ⟨_, _, by omega, HV13.out.below hba (by omega)⟩)
    clear HV13 HG13 HH13 hba k3 k4 hza
    go_wp2_with fail
    refine CE2.out.mono ?_
    rintro e w14 ⟨rfl, hb⟩
    have k4 := (bcell hb _ _ (block_of_cell j4)).trans j4
    have HB14 : Hid (Below w.heap.size w w14) := Lib.hid (HB13a.out.trans (hb.mono HB13a.out.size))
    have HG14 := Lib.hid (HG13a.out.below hb)
    have CH2 := Lib.hid (CHG.out w14 HG14.out)
    clear hb HG13a CE2 j3 j4
    go_wp2_with fail
    refine CH2.out.mono ?_
    rintro e w15 ⟨rfl, hb⟩
    have HB15 : Hid (Below w.heap.size w w15) := Lib.hid (HB14.out.trans (hb.mono HB14.out.size))
    clear hb
    go_wp2_with fail
    go_ret
    exact ⟨rfl, HB15.out⟩

end Go.Proofs.YtgbpnegdoilfnaaGreat
