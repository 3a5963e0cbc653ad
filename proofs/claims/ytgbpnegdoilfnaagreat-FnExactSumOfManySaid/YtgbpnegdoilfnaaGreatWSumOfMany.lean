/- The walk of laws.FnExactSumOfMany. -/
import Derived.Test.YtgbpnegdoilfnaaGreatSoAll
import Derived.Test.YtgbpnegdoilfnaaGreatFmHeld
namespace Go.Proofs.YtgbpnegdoilfnaaGreat
open Go.RowKit
set_option linter.unusedVariables false
set_option linter.unusedSimpArgs false

set_option maxRecDepth 100000 in
set_option maxHeartbeats 8000000 in
theorem fnExactSumOfMany_walk (u0 : Value) (L0 : List (List Nz)) (w : World) (hu0 : CopyFS w u0 L0) :
    Calls Tryz.prog 3 #[u0] w fun e w' => e = .returned (.bool true) ∧ Below w.heap.size w w' := by
  have HU0 := Lib.hid fun W (hW : Below w.heap.size w W) => hu0.below hW
  obtain ⟨a0, c0, hve0⟩ : ∃ a c, u0 = .slice a L0.length c := by obtain ⟨lo, hi, hh, a, c, e, _⟩ := hu0; exact ⟨a, c, e⟩
  subst hve0
  clear hu0
  obtain ⟨r, hr⟩ : ∃ r, soOk L0 = r := ⟨_, rfl⟩
  obtain ⟨g, hg⟩ : ∃ g, soV L0 = g := ⟨_, rfl⟩
  have HGZ : Hid ((g.map szN).sum ≤ 5760) := Lib.hid (by rw [← hg]; exact soV_sz L0)
  have HR := Lib.hid (And.intro hg hr)
  clear hg hr
  have q2 : (r != r) = false := by simp
  have HB0 : Hid (Below w.heap.size w w) := Lib.hid (Below.refl _ _)
  have hm0 : (0 : Int) ≤ 1048576 := by omega
  have CZ0 := Lib.hid fun W (hW : Below w.heap.size w W) (m : Int) (h0 : 0 ≤ m) (h1 : m ≤ 1048576) => szFormS_copy (.slice a0 L0.length c0) L0 W m h0 h1 (HU0.out W hW)
  go_enter Tryz.func3, Tryz.ntmps3
  have CC0 := Lib.hid (CZ0.out _ HB0.out 1048576 (by omega) (by omega))
  have HS0 : Hid (0 ≤ leftOf 1048576 (tzFs L0) → tzFs L0 ≤ 1048576 ∧ leftOf 1048576 (tzFs L0) ≤ 1048576) := Lib.hid (fun h => by have h1 := leftOf_neg 1048576 (tzFs L0) (by omega); have h2 := leftOf_pos 1048576 (tzFs L0) (by omega); omega)
  generalize leftOf 1048576 (tzFs L0) = m0 at CC0 HS0
  go_wp2_with fail
  refine (CC0.out).mono ?_
  rintro e w1 ⟨rfl, hb⟩
  have HB_1 : Hid (Below w.heap.size w w1) := Lib.hid (HB0.out.trans (hb.mono HB0.out.size))
  have hz_1 := hb.size
  clear hb HB0
  by_cases hn0 : m0 < 0
  · go_wp2_with fail
    go_ret
    exact ⟨rfl, HB_1.out⟩
  have hm0 : 0 ≤ m0 := by omega
  have hml0 : m0 ≤ 1048576 := (HS0.out hm0).2
  have HF0 : Hid (tzFs L0 ≤ 1048576) := Lib.hid (HS0.out hm0).1
  have HMK0 : Hid ((markFS L0 1).2 ≤ 1 + 1048576) := Lib.hid (by have h1 := markFS_end L0 1; have h2 := szFS_le L0; have h3 := HF0.out; omega)
  have CT0 := Lib.hid fun W (hW : Below w.heap.size w W) => toFormS_copy (.slice a0 L0.length c0) L0 W (HU0.out W hW) HF0.out
  clear HS0 CC0 CZ0
  go_wp2_with fail
  refine (CT0.out w1 HB_1.out).mono ?_
  rintro e w2 ⟨gxm0, psm0, rfl, hxm0, hb⟩
  have Xm0 := Lib.hid hxm0
  clear hxm0
  have HB_2 : Hid (Below w.heap.size w w2) := Lib.hid (HB_1.out.trans (hb.mono HB_1.out.size))
  have hz_2 := hb.size
  clear hb HB_1
  go_wp2_with fail
  refine (SumOfManyM_copy _ L0 r g HR w2 Xm0.out.copyFS).mono ?_
  rintro e w3 ⟨av, cv, rfl, hv, hb⟩
  have V := Lib.hid hv
  clear hv
  clear Xm0
  have HB_3 : Hid (Below w.heap.size w w3) := Lib.hid (HB_2.out.trans (hb.mono HB_2.out.size))
  have hz_3 := hb.size
  clear hb HB_2
  have hba : Below w3.heap.size w3 (w3.alloc (.cells #[.slice av g.length cv] 26)) := (Below.refl _ _).alloc (Nat.le_refl _) _
  have kv : (w3.alloc (.cells #[.slice av g.length cv] 26)).cell? ⟨w3.heap.size, 0, none⟩ = some (.slice av g.length cv) := by go_simp
  have hzakv : (w3.alloc (.cells #[.slice av g.length cv] 26)).heap.size ≤ w3.heap.size + 1 ∧ w3.heap.size + 1 ≤ (w3.alloc (.cells #[.slice av g.length cv] 26)).heap.size := by simp
  have HB_4 : Hid (Below w.heap.size w (w3.alloc (.cells #[.slice av g.length cv] 26))) := Lib.hid (HB_3.out.trans (hba.mono HB_3.out.size))
  have V_4 := Lib.hid (V.out.below hba (by omega))
  have hz_4 := hba.size
  clear hba HB_3 V
  go_wp2_with fail
  refine (CT0.out (w3.alloc (.cells #[.slice av g.length cv] 26)) HB_4.out).mono ?_
  rintro e w4 ⟨gxx0, psx0, rfl, hxx0, hb⟩
  have Xx0 := Lib.hid hxx0
  clear hxx0
  have HB_5 : Hid (Below w.heap.size w w4) := Lib.hid (HB_4.out.trans (hb.mono HB_4.out.size))
  have V_5 := Lib.hid (V_4.out.below hb (by omega))
  have kv_5 : w4.cell? ⟨w3.heap.size, 0, none⟩ = some (.slice av g.length cv) := (bcell hb _ _ (block_of_cell kv)).trans kv
  have hz_5 := hb.size
  clear hb HB_4 V_4 kv
  have RX0 : Hid (∀ b, BlkFS psx0 b → (w3.alloc (.cells #[.slice av g.length cv] 26)).heap.size ≤ b ∧ b < w4.heap.size) := Lib.hid (fun b hb => Xx0.out.allS (BlkFS.all hb))
  go_wp2_with fail
  refine (SumOfManyI_copy _ L0 r g HR _ Xx0.out.copyFS).mono ?_
  rintro e w5 ⟨ag, cg, vsg, rfl, hgo, hb⟩
  have G := Lib.hid hgo
  clear hgo
  have HB_6 : Hid (Below w.heap.size w w5) := Lib.hid (HB_5.out.trans (hb.mono HB_5.out.size))
  have V_6 := Lib.hid (V_5.out.below hb (by omega))
  have kv_6 : w5.cell? ⟨w3.heap.size, 0, none⟩ = some (.slice av g.length cv) := (bcell hb _ _ (block_of_cell kv_5)).trans kv_5
  have Xx0_6 := Lib.hid (Xx0.out.below hb)
  have hz_6 := hb.size
  clear hb HB_5 V_5 kv_5 Xx0
  have RG : Hid (∀ b, BlkF vsg b → w4.heap.size ≤ b ∧ b < w5.heap.size) := Lib.hid (fun b hb => G.out.blk hb)
  have hba : Below w5.heap.size w5 (w5.alloc (.cells #[.slice ag g.length cg] 26)) := (Below.refl _ _).alloc (Nat.le_refl _) _
  have kg : (w5.alloc (.cells #[.slice ag g.length cg] 26)).cell? ⟨w5.heap.size, 0, none⟩ = some (.slice ag g.length cg) := by go_simp
  have hzakg : (w5.alloc (.cells #[.slice ag g.length cg] 26)).heap.size ≤ w5.heap.size + 1 ∧ w5.heap.size + 1 ≤ (w5.alloc (.cells #[.slice ag g.length cg] 26)).heap.size := by simp
  have HB_7 : Hid (Below w.heap.size w (w5.alloc (.cells #[.slice ag g.length cg] 26))) := Lib.hid (HB_6.out.trans (hba.mono HB_6.out.size))
  have V_7 := Lib.hid (V_6.out.below hba (by omega))
  have kv_7 : (w5.alloc (.cells #[.slice ag g.length cg] 26)).cell? ⟨w3.heap.size, 0, none⟩ = some (.slice av g.length cv) := (bcell hba _ _ (block_of_cell kv_6)).trans kv_6
  have Xx0_7 := Lib.hid (Xx0_6.out.below hba)
  have G_7 := Lib.hid (G.out.below hba)
  have hz_7 := hba.size
  clear hba HB_6 V_6 kv_6 Xx0_6 G
  go_wp2_with fail
  refine (eqForm_copy _ _ g _ G_7.out.copyO ⟨_, _, by omega, V_7.out⟩).mono ?_
  rintro e w6 ⟨rfl, hb⟩
  have HB_8 : Hid (Below w.heap.size w w6) := Lib.hid (HB_7.out.trans (hb.mono HB_7.out.size))
  have V_8 := Lib.hid (V_7.out.below hb (by omega))
  have kv_8 : w6.cell? ⟨w3.heap.size, 0, none⟩ = some (.slice av g.length cv) := (bcell hb _ _ (block_of_cell kv_7)).trans kv_7
  have Xx0_8 := Lib.hid (Xx0_7.out.below hb)
  have G_8 := Lib.hid (G_7.out.below hb)
  have kg_8 : w6.cell? ⟨w5.heap.size, 0, none⟩ = some (.slice ag g.length cg) := (bcell hb _ _ (block_of_cell kg)).trans kg
  have hz_8 := hb.size
  clear hb HB_7 V_7 kv_7 Xx0_7 G_7 kg
  go_wp2_with fail
  refine (CT0.out w6 HB_8.out).mono ?_
  rintro e w7 ⟨gy0, psy0, rfl, hy0, hb⟩
  have Y0 := Lib.hid hy0
  clear hy0
  have HB_9 : Hid (Below w.heap.size w w7) := Lib.hid (HB_8.out.trans (hb.mono HB_8.out.size))
  have V_9 := Lib.hid (V_8.out.below hb (by omega))
  have kv_9 : w7.cell? ⟨w3.heap.size, 0, none⟩ = some (.slice av g.length cv) := (bcell hb _ _ (block_of_cell kv_8)).trans kv_8
  have Xx0_9 := Lib.hid (Xx0_8.out.below hb)
  have G_9 := Lib.hid (G_8.out.below hb)
  have kg_9 : w7.cell? ⟨w5.heap.size, 0, none⟩ = some (.slice ag g.length cg) := (bcell hb _ _ (block_of_cell kg_8)).trans kg_8
  have hz_9 := hb.size
  clear hb HB_8 V_8 kv_8 Xx0_8 G_8 kg_8
  go_wp2_with fail
  refine (eqFormS_copy _ _ L0 w7 Xx0_9.out.copyFS Y0.out.copyFS).mono ?_
  rintro e w8 ⟨rfl, hb⟩
  clear Y0
  have HB_10 : Hid (Below w.heap.size w w8) := Lib.hid (HB_9.out.trans (hb.mono HB_9.out.size))
  have V_10 := Lib.hid (V_9.out.below hb (by omega))
  have kv_10 : w8.cell? ⟨w3.heap.size, 0, none⟩ = some (.slice av g.length cv) := (bcell hb _ _ (block_of_cell kv_9)).trans kv_9
  have Xx0_10 := Lib.hid (Xx0_9.out.below hb)
  have G_10 := Lib.hid (G_9.out.below hb)
  have kg_10 : w8.cell? ⟨w5.heap.size, 0, none⟩ = some (.slice ag g.length cg) := (bcell hb _ _ (block_of_cell kg_9)).trans kg_9
  have hz_10 := hb.size
  clear hb HB_9 V_9 kv_9 Xx0_9 G_9 kg_9
  have hk0 : (1 : Int) ≤ 1 ∧ 1 ≤ 2000000 := by omega
  have CMK0 := Lib.hid (markFS_calls _ psx0 L0 1 _ _ Xx0_10.out (by omega) (by have h1 := markFS_end L0 1; have h2 := szFS_le L0; have h3 := HF0.out; omega))
  have hmk0 : 1 ≤ (markFS L0 1).2 ∧ (markFS L0 1).2 ≤ 1 + 1048576 := by have h1 := markFS_end L0 1; have h2 := szFS_le L0; have h3 := HF0.out; omega
  generalize (markFS L0 1).2 = km0 at CMK0 hmk0
  go_wp2_with fail
  refine (CMK0.out).mono ?_
  rintro e w9 ⟨rfl, hxm0, ho⟩
  clear hxm0 CMK0
  clear Xx0_10
  have HB_11 : Hid (Below w.heap.size w w9) := Lib.hid (HB_10.out.trans (ho.below HB_10.out.size (fun b h => by have := RX0.out b h; omega)))
  have V_11 := Lib.hid (V_10.out.only (by omega) ho (fun b h1 h2 h3 => by have := RX0.out b h3; omega))
  have kv_11 : w9.cell? ⟨w3.heap.size, 0, none⟩ = some (.slice av g.length cv) := (ho.cell (o := 0) (block_of_cell kv_10) (fun h => by have := RX0.out _ h; omega)).trans kv_10
  have G_11 := Lib.hid (G_10.out.only ho (fun b h1 h2 h3 => by have := RX0.out b h3; omega))
  have kg_11 : w9.cell? ⟨w5.heap.size, 0, none⟩ = some (.slice ag g.length cg) := (ho.cell (o := 0) (block_of_cell kg_10) (fun h => by have := RX0.out _ h; omega)).trans kg_10
  have hz_11 := ho.size
  clear ho HB_10 V_10 kv_10 G_10 kg_10
  go_wp2_with fail
  refine (eqForm_copy _ _ g _ G_11.out.copyO ⟨_, _, by omega, V_11.out⟩).mono ?_
  rintro e w10 ⟨rfl, hb⟩
  have HB_12 : Hid (Below w.heap.size w w10) := Lib.hid (HB_11.out.trans (hb.mono HB_11.out.size))
  have V_12 := Lib.hid (V_11.out.below hb (by omega))
  have kv_12 : w10.cell? ⟨w3.heap.size, 0, none⟩ = some (.slice av g.length cv) := (bcell hb _ _ (block_of_cell kv_11)).trans kv_11
  have G_12 := Lib.hid (G_11.out.below hb)
  have kg_12 : w10.cell? ⟨w5.heap.size, 0, none⟩ = some (.slice ag g.length cg) := (bcell hb _ _ (block_of_cell kg_11)).trans kg_11
  have hz_12 := hb.size
  clear hb HB_11 V_11 kv_11 G_11 kg_11
  have mg1 := markF_end g 1
  have mg2 := HGZ.out
  have mg3 : (1 : Int) ≤ (markF g 1).2 := by omega
  have mg4 : (markF g 1).2 ≤ 1000000000 := by omega
  have CMG := Lib.hid (markForm_own _ vsg g 1 _ _ G_12.out (by omega) mg4)
  have CHG := Lib.hid fun W base (h : OwnF W base (.slice ag g.length cg) vsg (markF g 1).1) => heldForm_calls _ g 1 W _ _ (Nat.le_refl _) h.nodesZ (by omega) mg4
  clear mg1 mg2
  generalize hkg : (markF g 1).2 = kg at CMG CHG mg3 mg4
  clear hkg
  go_wp2_with fail
  refine (CMG.out).mono ?_
  rintro e w11 ⟨rfl, hgm, ho⟩
  have M := Lib.hid hgm
  clear hgm CMG
  clear G_12
  have HB_13 : Hid (Below w.heap.size w w11) := Lib.hid (HB_12.out.trans (ho.below HB_12.out.size (fun b h => by have := RG.out b h; omega)))
  have V_13 := Lib.hid (V_12.out.only (by omega) ho (fun b h1 h2 h3 => by have := RG.out b h3; omega))
  have kv_13 : w11.cell? ⟨w3.heap.size, 0, none⟩ = some (.slice av g.length cv) := (ho.cell (o := 0) (block_of_cell kv_12) (fun h => by have := RG.out _ h; omega)).trans kv_12
  have kg_13 : w11.cell? ⟨w5.heap.size, 0, none⟩ = some (.slice ag g.length cg) := (ho.cell (o := 0) (block_of_cell kg_12) (fun h => by have := RG.out _ h; omega)).trans kg_12
  have hz_13 := ho.size
  clear ho HB_12 V_12 kv_12 kg_12
  go_wp2_with fail
  refine (CHG.out _ _ M.out).mono ?_
  rintro e w12 ⟨rfl, hb⟩
  have HB_14 : Hid (Below w.heap.size w w12) := Lib.hid (HB_13.out.trans (hb.mono HB_13.out.size))
  have V_14 := Lib.hid (V_13.out.below hb (by omega))
  have kv_14 : w12.cell? ⟨w3.heap.size, 0, none⟩ = some (.slice av g.length cv) := (bcell hb _ _ (block_of_cell kv_13)).trans kv_13
  have kg_14 : w12.cell? ⟨w5.heap.size, 0, none⟩ = some (.slice ag g.length cg) := (bcell hb _ _ (block_of_cell kg_13)).trans kg_13
  have M_14 := Lib.hid (M.out.below hb)
  have hz_14 := hb.size
  clear hb HB_13 V_13 kv_13 kg_13 M
  go_wp2_with fail
  refine (CT0.out w12 HB_14.out).mono ?_
  rintro e w13 ⟨gxh0, psh0, rfl, hxh0, hb⟩
  have Xh0 := Lib.hid hxh0
  clear hxh0
  have HB_15 : Hid (Below w.heap.size w w13) := Lib.hid (HB_14.out.trans (hb.mono HB_14.out.size))
  have V_15 := Lib.hid (V_14.out.below hb (by omega))
  have kv_15 : w13.cell? ⟨w3.heap.size, 0, none⟩ = some (.slice av g.length cv) := (bcell hb _ _ (block_of_cell kv_14)).trans kv_14
  have kg_15 : w13.cell? ⟨w5.heap.size, 0, none⟩ = some (.slice ag g.length cg) := (bcell hb _ _ (block_of_cell kg_14)).trans kg_14
  have M_15 := Lib.hid (M_14.out.below hb)
  have hz_15 := hb.size
  clear hb HB_14 V_14 kv_14 kg_14 M_14
  go_wp2_with fail
  refine (SumOfManyI_copy _ L0 r g HR _ Xh0.out.copyFS).mono ?_
  rintro e w14 ⟨ah, ch, vsh, rfl, hho, hb⟩
  have H := Lib.hid hho
  clear hho
  clear Xh0
  have HB_16 : Hid (Below w.heap.size w w14) := Lib.hid (HB_15.out.trans (hb.mono HB_15.out.size))
  have V_16 := Lib.hid (V_15.out.below hb (by omega))
  have kv_16 : w14.cell? ⟨w3.heap.size, 0, none⟩ = some (.slice av g.length cv) := (bcell hb _ _ (block_of_cell kv_15)).trans kv_15
  have kg_16 : w14.cell? ⟨w5.heap.size, 0, none⟩ = some (.slice ag g.length cg) := (bcell hb _ _ (block_of_cell kg_15)).trans kg_15
  have M_16 := Lib.hid (M_15.out.below hb)
  have hz_16 := hb.size
  clear hb HB_15 V_15 kv_15 kg_15 M_15
  have hba : Below w14.heap.size w14 (w14.alloc (.cells #[.slice ah g.length ch] 26)) := (Below.refl _ _).alloc (Nat.le_refl _) _
  have kh : (w14.alloc (.cells #[.slice ah g.length ch] 26)).cell? ⟨w14.heap.size, 0, none⟩ = some (.slice ah g.length ch) := by go_simp
  have hzakh : (w14.alloc (.cells #[.slice ah g.length ch] 26)).heap.size ≤ w14.heap.size + 1 ∧ w14.heap.size + 1 ≤ (w14.alloc (.cells #[.slice ah g.length ch] 26)).heap.size := by simp
  have HB_17 : Hid (Below w.heap.size w (w14.alloc (.cells #[.slice ah g.length ch] 26))) := Lib.hid (HB_16.out.trans (hba.mono HB_16.out.size))
  have V_17 := Lib.hid (V_16.out.below hba (by omega))
  have kv_17 : (w14.alloc (.cells #[.slice ah g.length ch] 26)).cell? ⟨w3.heap.size, 0, none⟩ = some (.slice av g.length cv) := (bcell hba _ _ (block_of_cell kv_16)).trans kv_16
  have kg_17 : (w14.alloc (.cells #[.slice ah g.length ch] 26)).cell? ⟨w5.heap.size, 0, none⟩ = some (.slice ag g.length cg) := (bcell hba _ _ (block_of_cell kg_16)).trans kg_16
  have M_17 := Lib.hid (M_16.out.below hba)
  have H_17 := Lib.hid (H.out.below hba)
  have hz_17 := hba.size
  clear hba HB_16 V_16 kv_16 kg_16 M_16 H
  go_wp2_with fail
  refine (eqForm_copy _ _ g _ H_17.out.copyO ⟨_, _, by omega, V_17.out⟩).mono ?_
  rintro e w15 ⟨rfl, hb⟩
  have HB_18 : Hid (Below w.heap.size w w15) := Lib.hid (HB_17.out.trans (hb.mono HB_17.out.size))
  have V_18 := Lib.hid (V_17.out.below hb (by omega))
  have kv_18 : w15.cell? ⟨w3.heap.size, 0, none⟩ = some (.slice av g.length cv) := (bcell hb _ _ (block_of_cell kv_17)).trans kv_17
  have kg_18 : w15.cell? ⟨w5.heap.size, 0, none⟩ = some (.slice ag g.length cg) := (bcell hb _ _ (block_of_cell kg_17)).trans kg_17
  have M_18 := Lib.hid (M_17.out.below hb)
  have H_18 := Lib.hid (H_17.out.below hb)
  have kh_18 : w15.cell? ⟨w14.heap.size, 0, none⟩ = some (.slice ah g.length ch) := (bcell hb _ _ (block_of_cell kh)).trans kh
  have hz_18 := hb.size
  clear hb HB_17 V_17 kv_17 kg_17 M_17 H_17 kh
  go_wp2_with fail
  refine (CHG.out _ _ M_18.out).mono ?_
  rintro e w16 ⟨rfl, hb⟩
  have HB_19 : Hid (Below w.heap.size w w16) := Lib.hid (HB_18.out.trans (hb.mono HB_18.out.size))
  have V_19 := Lib.hid (V_18.out.below hb (by omega))
  have kv_19 : w16.cell? ⟨w3.heap.size, 0, none⟩ = some (.slice av g.length cv) := (bcell hb _ _ (block_of_cell kv_18)).trans kv_18
  have kg_19 : w16.cell? ⟨w5.heap.size, 0, none⟩ = some (.slice ag g.length cg) := (bcell hb _ _ (block_of_cell kg_18)).trans kg_18
  have M_19 := Lib.hid (M_18.out.below hb)
  have H_19 := Lib.hid (H_18.out.below hb)
  have kh_19 : w16.cell? ⟨w14.heap.size, 0, none⟩ = some (.slice ah g.length ch) := (bcell hb _ _ (block_of_cell kh_18)).trans kh_18
  have hz_19 := hb.size
  clear hb HB_18 V_18 kv_18 kg_18 M_18 H_18 kh_18
  go_wp2_with fail
  go_ret
  exact ⟨rfl, HB_19.out⟩

end Go.Proofs.YtgbpnegdoilfnaaGreat
