/- The walk of laws.FnExactMakeForm. -/
import Derived.Test.YtgbpnegdoilfnaaMkAll
import Derived.Test.YtgbpnegdoilfnaaFmHeld
namespace Go.Proofs.Ytgbpnegdoilfnaa
open Go.RowKit
set_option linter.unusedVariables false
set_option linter.unusedSimpArgs false

set_option maxRecDepth 100000 in
set_option maxHeartbeats 8000000 in
theorem fnExactMakeForm_walk (u0 : Value) (L0 : List (List Nz)) (u1 : Value) (L1 : List (List Nz)) (w : World) (hu0 : CopyFS w u0 L0) (hu1 : CopyFS w u1 L1) :
    Calls Try.prog 5 #[u0, u1] w fun e w' => e = .returned (.bool true) ∧ Below w.heap.size w w' := by
  have HU0 := Lib.hid fun W (hW : Below w.heap.size w W) => hu0.below hW
  obtain ⟨a0, c0, hve0⟩ : ∃ a c, u0 = .slice a L0.length c := by obtain ⟨lo, hi, hh, a, c, e, _⟩ := hu0; exact ⟨a, c, e⟩
  subst hve0
  have HU1 := Lib.hid fun W (hW : Below w.heap.size w W) => hu1.below hW
  obtain ⟨a1, c1, hve1⟩ : ∃ a c, u1 = .slice a L1.length c := by obtain ⟨lo, hi, hh, a, c, e, _⟩ := hu1; exact ⟨a, c, e⟩
  subst hve1
  clear hu0 hu1
  obtain ⟨r, hr⟩ : ∃ r, mkOk L0 L1 = r := ⟨_, rfl⟩
  obtain ⟨g, hg⟩ : ∃ g, mkV L0 L1 = g := ⟨_, rfl⟩
  have HGZ : Hid ((g.map szN).sum ≤ 5760) := Lib.hid (by rw [← hg]; exact mkV_sz L0 L1)
  have HR := Lib.hid (And.intro hg hr)
  clear hg hr
  have q2 : (r != r) = false := by simp
  have HB0 : Hid (Below w.heap.size w w) := Lib.hid (Below.refl _ _)
  have hm0 : (0 : Int) ≤ 1048576 := by omega
  have CZ0 := Lib.hid fun W (hW : Below w.heap.size w W) (m : Int) (h0 : 0 ≤ m) (h1 : m ≤ 1048576) => szFormS_copy (.slice a0 L0.length c0) L0 W m h0 h1 (HU0.out W hW)
  have CZ1 := Lib.hid fun W (hW : Below w.heap.size w W) (m : Int) (h0 : 0 ≤ m) (h1 : m ≤ 1048576) => szFormS_copy (.slice a1 L1.length c1) L1 W m h0 h1 (HU1.out W hW)
  go_enter Try.func5, Try.ntmps5
  have CC0 := Lib.hid (CZ0.out _ HB0.out 1048576 (by omega) (by omega))
  have HS0 : Hid (0 ≤ leftOf 1048576 (tzFs L0) → tzFs L0 ≤ 1048576 ∧ leftOf 1048576 (tzFs L0) ≤ 1048576) := Lib.hid (fun h => by have h1 := leftOf_neg 1048576 (tzFs L0) (by omega); have h2 := leftOf_pos 1048576 (tzFs L0) (by omega); omega)
  generalize leftOf 1048576 (tzFs L0) = m0 at CC0 HS0
  go_wp2_with fail
  refine (CC0.out).mono ?_
  rintro e w1 ⟨rfl, hb⟩
  have HB_1 : Hid (Below w.heap.size w w1) := Lib.hid (HB0.out.trans (hb.mono HB0.out.size))
  have hz_1 := hb.size
  clear hb HB0
  by_cases hn0 : m0 < 0
  · go_wp2_with fail
    go_ret
    exact ⟨rfl, HB_1.out⟩
  have hm0 : 0 ≤ m0 := by omega
  have hml0 : m0 ≤ 1048576 := (HS0.out hm0).2
  have HF0 : Hid (tzFs L0 ≤ 1048576) := Lib.hid (HS0.out hm0).1
  have HMK0 : Hid ((markFS L0 1).2 ≤ 1 + 1048576) := Lib.hid (by have h1 := markFS_end L0 1; have h2 := szFS_le L0; have h3 := HF0.out; omega)
  have CT0 := Lib.hid fun W (hW : Below w.heap.size w W) => toFormS_copy (.slice a0 L0.length c0) L0 W (HU0.out W hW) HF0.out
  clear HS0 CC0 CZ0
  have CC1 := Lib.hid (CZ1.out _ HB_1.out m0 (by omega) (by omega))
  have HS1 : Hid (0 ≤ leftOf m0 (tzFs L1) → tzFs L1 ≤ 1048576 ∧ leftOf m0 (tzFs L1) ≤ 1048576) := Lib.hid (fun h => by have h1 := leftOf_neg m0 (tzFs L1) (by omega); have h2 := leftOf_pos m0 (tzFs L1) (by omega); omega)
  generalize leftOf m0 (tzFs L1) = m1 at CC1 HS1
  go_wp2_with fail
  refine (CC1.out).mono ?_
  rintro e w2 ⟨rfl, hb⟩
  have HB_2 : Hid (Below w.heap.size w w2) := Lib.hid (HB_1.out.trans (hb.mono HB_1.out.size))
  have hz_2 := hb.size
  clear hb HB_1
  by_cases hn1 : m1 < 0
  · go_wp2_with fail
    go_ret
    exact ⟨rfl, HB_2.out⟩
  have hm1 : 0 ≤ m1 := by omega
  have hml1 : m1 ≤ 1048576 := (HS1.out hm1).2
  have HF1 : Hid (tzFs L1 ≤ 1048576) := Lib.hid (HS1.out hm1).1
  have HMK1 : Hid ((markFS L1 1).2 ≤ 1 + 1048576) := Lib.hid (by have h1 := markFS_end L1 1; have h2 := szFS_le L1; have h3 := HF1.out; omega)
  have CT1 := Lib.hid fun W (hW : Below w.heap.size w W) => toFormS_copy (.slice a1 L1.length c1) L1 W (HU1.out W hW) HF1.out
  clear HS1 CC1 CZ1
  go_wp2_with fail
  refine (CT0.out w2 HB_2.out).mono ?_
  rintro e w3 ⟨gxm0, psm0, rfl, hxm0, hb⟩
  have Xm0 := Lib.hid hxm0
  clear hxm0
  have HB_3 : Hid (Below w.heap.size w w3) := Lib.hid (HB_2.out.trans (hb.mono HB_2.out.size))
  have hz_3 := hb.size
  clear hb HB_2
  go_wp2_with fail
  refine (CT1.out w3 HB_3.out).mono ?_
  rintro e w4 ⟨gxm1, psm1, rfl, hxm1, hb⟩
  have Xm1 := Lib.hid hxm1
  clear hxm1
  have HB_4 : Hid (Below w.heap.size w w4) := Lib.hid (HB_3.out.trans (hb.mono HB_3.out.size))
  have Xm0_4 := Lib.hid (Xm0.out.below hb)
  have hz_4 := hb.size
  clear hb HB_3 Xm0
  go_wp2_with fail
  refine (MakeFormM_copy _ L0 _ L1 r g HR w4 Xm0_4.out.copyFS Xm1.out.copyFS).mono ?_
  rintro e w5 ⟨av, cv, rfl, hv, hb⟩
  have V := Lib.hid hv
  clear hv
  clear Xm0_4
  clear Xm1
  have HB_5 : Hid (Below w.heap.size w w5) := Lib.hid (HB_4.out.trans (hb.mono HB_4.out.size))
  have hz_5 := hb.size
  clear hb HB_4
  have hba : Below w5.heap.size w5 (w5.alloc (.cells #[.slice av g.length cv] 24)) := (Below.refl _ _).alloc (Nat.le_refl _) _
  have kv : (w5.alloc (.cells #[.slice av g.length cv] 24)).cell? ⟨w5.heap.size, 0, none⟩ = some (.slice av g.length cv) := by go_simp
  have hzakv : (w5.alloc (.cells #[.slice av g.length cv] 24)).heap.size ≤ w5.heap.size + 1 ∧ w5.heap.size + 1 ≤ (w5.alloc (.cells #[.slice av g.length cv] 24)).heap.size := by simp
  have HB_6 : Hid (Below w.heap.size w (w5.alloc (.cells #[.slice av g.length cv] 24))) := Lib.hid (HB_5.out.trans (hba.mono HB_5.out.size))
  have V_6 := Lib.hid (V.out.below hba (by omega))
  have hz_6 := hba.size
  clear hba HB_5 V
  go_wp2_with fail
  refine (CT0.out (w5.alloc (.cells #[.slice av g.length cv] 24)) HB_6.out).mono ?_
  rintro e w6 ⟨gxx0, psx0, rfl, hxx0, hb⟩
  have Xx0 := Lib.hid hxx0
  clear hxx0
  have HB_7 : Hid (Below w.heap.size w w6) := Lib.hid (HB_6.out.trans (hb.mono HB_6.out.size))
  have V_7 := Lib.hid (V_6.out.below hb (by omega))
  have kv_7 : w6.cell? ⟨w5.heap.size, 0, none⟩ = some (.slice av g.length cv) := (bcell hb _ _ (block_of_cell kv)).trans kv
  have hz_7 := hb.size
  clear hb HB_6 V_6 kv
  have RX0 : Hid (∀ b, BlkFS psx0 b → (w5.alloc (.cells #[.slice av g.length cv] 24)).heap.size ≤ b ∧ b < w6.heap.size) := Lib.hid (fun b hb => Xx0.out.allS (BlkFS.all hb))
  go_wp2_with fail
  refine (CT1.out w6 HB_7.out).mono ?_
  rintro e w7 ⟨gxx1, psx1, rfl, hxx1, hb⟩
  have Xx1 := Lib.hid hxx1
  clear hxx1
  have HB_8 : Hid (Below w.heap.size w w7) := Lib.hid (HB_7.out.trans (hb.mono HB_7.out.size))
  have V_8 := Lib.hid (V_7.out.below hb (by omega))
  have kv_8 : w7.cell? ⟨w5.heap.size, 0, none⟩ = some (.slice av g.length cv) := (bcell hb _ _ (block_of_cell kv_7)).trans kv_7
  have Xx0_8 := Lib.hid (Xx0.out.below hb)
  have hz_8 := hb.size
  clear hb HB_7 V_7 kv_7 Xx0
  have RX1 : Hid (∀ b, BlkFS psx1 b → w6.heap.size ≤ b ∧ b < w7.heap.size) := Lib.hid (fun b hb => Xx1.out.allS (BlkFS.all hb))
  go_wp2_with fail
  refine (MakeFormI_copy _ L0 _ L1 r g HR _ Xx0_8.out.copyFS Xx1.out.copyFS).mono ?_
  rintro e w8 ⟨ag, cg, vsg, rfl, hgo, hb⟩
  have G := Lib.hid hgo
  clear hgo
  have HB_9 : Hid (Below w.heap.size w w8) := Lib.hid (HB_8.out.trans (hb.mono HB_8.out.size))
  have V_9 := Lib.hid (V_8.out.below hb (by omega))
  have kv_9 : w8.cell? ⟨w5.heap.size, 0, none⟩ = some (.slice av g.length cv) := (bcell hb _ _ (block_of_cell kv_8)).trans kv_8
  have Xx0_9 := Lib.hid (Xx0_8.out.below hb)
  have Xx1_9 := Lib.hid (Xx1.out.below hb)
  have hz_9 := hb.size
  clear hb HB_8 V_8 kv_8 Xx0_8 Xx1
  have RG : Hid (∀ b, BlkF vsg b → w7.heap.size ≤ b ∧ b < w8.heap.size) := Lib.hid (fun b hb => G.out.blk hb)
  have hba : Below w8.heap.size w8 (w8.alloc (.cells #[.slice ag g.length cg] 24)) := (Below.refl _ _).alloc (Nat.le_refl _) _
  have kg : (w8.alloc (.cells #[.slice ag g.length cg] 24)).cell? ⟨w8.heap.size, 0, none⟩ = some (.slice ag g.length cg) := by go_simp
  have hzakg : (w8.alloc (.cells #[.slice ag g.length cg] 24)).heap.size ≤ w8.heap.size + 1 ∧ w8.heap.size + 1 ≤ (w8.alloc (.cells #[.slice ag g.length cg] 24)).heap.size := by simp
  have HB_10 : Hid (Below w.heap.size w (w8.alloc (.cells #[.slice ag g.length cg] 24))) := Lib.hid (HB_9.out.trans (hba.mono HB_9.out.size))
  have V_10 := Lib.hid (V_9.out.below hba (by omega))
  have kv_10 : (w8.alloc (.cells #[.slice ag g.length cg] 24)).cell? ⟨w5.heap.size, 0, none⟩ = some (.slice av g.length cv) := (bcell hba _ _ (block_of_cell kv_9)).trans kv_9
  have Xx0_10 := Lib.hid (Xx0_9.out.below hba)
  have Xx1_10 := Lib.hid (Xx1_9.out.below hba)
  have G_10 := Lib.hid (G.out.below hba)
  have hz_10 := hba.size
  clear hba HB_9 V_9 kv_9 Xx0_9 Xx1_9 G
  go_wp2_with fail
  refine (eqForm_copy _ _ g _ G_10.out.copyO ⟨_, _, by omega, V_10.out⟩).mono ?_
  rintro e w9 ⟨rfl, hb⟩
  have HB_11 : Hid (Below w.heap.size w w9) := Lib.hid (HB_10.out.trans (hb.mono HB_10.out.size))
  have V_11 := Lib.hid (V_10.out.below hb (by omega))
  have kv_11 : w9.cell? ⟨w5.heap.size, 0, none⟩ = some (.slice av g.length cv) := (bcell hb _ _ (block_of_cell kv_10)).trans kv_10
  have Xx0_11 := Lib.hid (Xx0_10.out.below hb)
  have Xx1_11 := Lib.hid (Xx1_10.out.below hb)
  have G_11 := Lib.hid (G_10.out.below hb)
  have kg_11 : w9.cell? ⟨w8.heap.size, 0, none⟩ = some (.slice ag g.length cg) := (bcell hb _ _ (block_of_cell kg)).trans kg
  have hz_11 := hb.size
  clear hb HB_10 V_10 kv_10 Xx0_10 Xx1_10 G_10 kg
  go_wp2_with fail
  refine (CT0.out w9 HB_11.out).mono ?_
  rintro e w10 ⟨gy0, psy0, rfl, hy0, hb⟩
  have Y0 := Lib.hid hy0
  clear hy0
  have HB_12 : Hid (Below w.heap.size w w10) := Lib.hid (HB_11.out.trans (hb.mono HB_11.out.size))
  have V_12 := Lib.hid (V_11.out.below hb (by omega))
  have kv_12 : w10.cell? ⟨w5.heap.size, 0, none⟩ = some (.slice av g.length cv) := (bcell hb _ _ (block_of_cell kv_11)).trans kv_11
  have Xx0_12 := Lib.hid (Xx0_11.out.below hb)
  have Xx1_12 := Lib.hid (Xx1_11.out.below hb)
  have G_12 := Lib.hid (G_11.out.below hb)
  have kg_12 : w10.cell? ⟨w8.heap.size, 0, none⟩ = some (.slice ag g.length cg) := (bcell hb _ _ (block_of_cell kg_11)).trans kg_11
  have hz_12 := hb.size
  clear hb HB_11 V_11 kv_11 Xx0_11 Xx1_11 G_11 kg_11
  go_wp2_with fail
  refine (eqFormS_copy _ _ L0 w10 Xx0_12.out.copyFS Y0.out.copyFS).mono ?_
  rintro e w11 ⟨rfl, hb⟩
  clear Y0
  have HB_13 : Hid (Below w.heap.size w w11) := Lib.hid (HB_12.out.trans (hb.mono HB_12.out.size))
  have V_13 := Lib.hid (V_12.out.below hb (by omega))
  have kv_13 : w11.cell? ⟨w5.heap.size, 0, none⟩ = some (.slice av g.length cv) := (bcell hb _ _ (block_of_cell kv_12)).trans kv_12
  have Xx0_13 := Lib.hid (Xx0_12.out.below hb)
  have Xx1_13 := Lib.hid (Xx1_12.out.below hb)
  have G_13 := Lib.hid (G_12.out.below hb)
  have kg_13 : w11.cell? ⟨w8.heap.size, 0, none⟩ = some (.slice ag g.length cg) := (bcell hb _ _ (block_of_cell kg_12)).trans kg_12
  have hz_13 := hb.size
  clear hb HB_12 V_12 kv_12 Xx0_12 Xx1_12 G_12 kg_12
  go_wp2_with fail
  refine (CT1.out w11 HB_13.out).mono ?_
  rintro e w12 ⟨gy1, psy1, rfl, hy1, hb⟩
  have Y1 := Lib.hid hy1
  clear hy1
  have HB_14 : Hid (Below w.heap.size w w12) := Lib.hid (HB_13.out.trans (hb.mono HB_13.out.size))
  have V_14 := Lib.hid (V_13.out.below hb (by omega))
  have kv_14 : w12.cell? ⟨w5.heap.size, 0, none⟩ = some (.slice av g.length cv) := (bcell hb _ _ (block_of_cell kv_13)).trans kv_13
  have Xx0_14 := Lib.hid (Xx0_13.out.below hb)
  have Xx1_14 := Lib.hid (Xx1_13.out.below hb)
  have G_14 := Lib.hid (G_13.out.below hb)
  have kg_14 : w12.cell? ⟨w8.heap.size, 0, none⟩ = some (.slice ag g.length cg) := (bcell hb _ _ (block_of_cell kg_13)).trans kg_13
  have hz_14 := hb.size
  clear hb HB_13 V_13 kv_13 Xx0_13 Xx1_13 G_13 kg_13
  go_wp2_with fail
  refine (eqFormS_copy _ _ L1 w12 Xx1_14.out.copyFS Y1.out.copyFS).mono ?_
  rintro e w13 ⟨rfl, hb⟩
  clear Y1
  have HB_15 : Hid (Below w.heap.size w w13) := Lib.hid (HB_14.out.trans (hb.mono HB_14.out.size))
  have V_15 := Lib.hid (V_14.out.below hb (by omega))
  have kv_15 : w13.cell? ⟨w5.heap.size, 0, none⟩ = some (.slice av g.length cv) := (bcell hb _ _ (block_of_cell kv_14)).trans kv_14
  have Xx0_15 := Lib.hid (Xx0_14.out.below hb)
  have Xx1_15 := Lib.hid (Xx1_14.out.below hb)
  have G_15 := Lib.hid (G_14.out.below hb)
  have kg_15 : w13.cell? ⟨w8.heap.size, 0, none⟩ = some (.slice ag g.length cg) := (bcell hb _ _ (block_of_cell kg_14)).trans kg_14
  have hz_15 := hb.size
  clear hb HB_14 V_14 kv_14 Xx0_14 Xx1_14 G_14 kg_14
  have hk0 : (1 : Int) ≤ 1 ∧ 1 ≤ 2000000 := by omega
  have CMK0 := Lib.hid (markFS_calls _ psx0 L0 1 _ _ Xx0_15.out (by omega) (by have h1 := markFS_end L0 1; have h2 := szFS_le L0; have h3 := HF0.out; omega))
  have hmk0 : 1 ≤ (markFS L0 1).2 ∧ (markFS L0 1).2 ≤ 1 + 1048576 := by have h1 := markFS_end L0 1; have h2 := szFS_le L0; have h3 := HF0.out; omega
  generalize (markFS L0 1).2 = km0 at CMK0 hmk0
  go_wp2_with fail
  refine (CMK0.out).mono ?_
  rintro e w14 ⟨rfl, hxm0, ho⟩
  clear hxm0 CMK0
  clear Xx0_15
  have HB_16 : Hid (Below w.heap.size w w14) := Lib.hid (HB_15.out.trans (ho.below HB_15.out.size (fun b h => by have := RX0.out b h; omega)))
  have V_16 := Lib.hid (V_15.out.only (by omega) ho (fun b h1 h2 h3 => by have := RX0.out b h3; omega))
  have kv_16 : w14.cell? ⟨w5.heap.size, 0, none⟩ = some (.slice av g.length cv) := (ho.cell (o := 0) (block_of_cell kv_15) (fun h => by have := RX0.out _ h; omega)).trans kv_15
  have Xx1_16 := Lib.hid (Xx1_15.out.only ho (fun b hb h => by have := Xx1_15.out.allS hb; have := RX0.out b h; omega))
  have G_16 := Lib.hid (G_15.out.only ho (fun b h1 h2 h3 => by have := RX0.out b h3; omega))
  have kg_16 : w14.cell? ⟨w8.heap.size, 0, none⟩ = some (.slice ag g.length cg) := (ho.cell (o := 0) (block_of_cell kg_15) (fun h => by have := RX0.out _ h; omega)).trans kg_15
  have hz_16 := ho.size
  clear ho HB_15 V_15 kv_15 Xx1_15 G_15 kg_15
  have hk1 : (1 : Int) ≤ km0 ∧ km0 ≤ 4000000 := by omega
  have CMK1 := Lib.hid (markFS_calls _ psx1 L1 km0 _ _ Xx1_16.out (by omega) (by have h1 := markFS_end L1 km0; have h2 := szFS_le L1; have h3 := HF1.out; omega))
  have hmk1 : km0 ≤ (markFS L1 km0).2 ∧ (markFS L1 km0).2 ≤ km0 + 1048576 := by have h1 := markFS_end L1 km0; have h2 := szFS_le L1; have h3 := HF1.out; omega
  generalize (markFS L1 km0).2 = km1 at CMK1 hmk1
  go_wp2_with fail
  refine (CMK1.out).mono ?_
  rintro e w15 ⟨rfl, hxm1, ho⟩
  clear hxm1 CMK1
  clear Xx1_16
  have HB_17 : Hid (Below w.heap.size w w15) := Lib.hid (HB_16.out.trans (ho.below HB_16.out.size (fun b h => by have := RX1.out b h; omega)))
  have V_17 := Lib.hid (V_16.out.only (by omega) ho (fun b h1 h2 h3 => by have := RX1.out b h3; omega))
  have kv_17 : w15.cell? ⟨w5.heap.size, 0, none⟩ = some (.slice av g.length cv) := (ho.cell (o := 0) (block_of_cell kv_16) (fun h => by have := RX1.out _ h; omega)).trans kv_16
  have G_17 := Lib.hid (G_16.out.only ho (fun b h1 h2 h3 => by have := RX1.out b h3; omega))
  have kg_17 : w15.cell? ⟨w8.heap.size, 0, none⟩ = some (.slice ag g.length cg) := (ho.cell (o := 0) (block_of_cell kg_16) (fun h => by have := RX1.out _ h; omega)).trans kg_16
  have hz_17 := ho.size
  clear ho HB_16 V_16 kv_16 G_16 kg_16
  go_wp2_with fail
  refine (eqForm_copy _ _ g _ G_17.out.copyO ⟨_, _, by omega, V_17.out⟩).mono ?_
  rintro e w16 ⟨rfl, hb⟩
  have HB_18 : Hid (Below w.heap.size w w16) := Lib.hid (HB_17.out.trans (hb.mono HB_17.out.size))
  have V_18 := Lib.hid (V_17.out.below hb (by omega))
  have kv_18 : w16.cell? ⟨w5.heap.size, 0, none⟩ = some (.slice av g.length cv) := (bcell hb _ _ (block_of_cell kv_17)).trans kv_17
  have G_18 := Lib.hid (G_17.out.below hb)
  have kg_18 : w16.cell? ⟨w8.heap.size, 0, none⟩ = some (.slice ag g.length cg) := (bcell hb _ _ (block_of_cell kg_17)).trans kg_17
  have hz_18 := hb.size
  clear hb HB_17 V_17 kv_17 G_17 kg_17
  have mg1 := markF_end g 1
  have mg2 := HGZ.out
  have mg3 : (1 : Int) ≤ (markF g 1).2 := by omega
  have mg4 : (markF g 1).2 ≤ 1000000000 := by omega
  have CMG := Lib.hid (markForm_own _ vsg g 1 _ _ G_18.out (by omega) mg4)
  have CHG := Lib.hid fun W base (h : OwnF W base (.slice ag g.length cg) vsg (markF g 1).1) => heldForm_calls _ g 1 W _ _ (Nat.le_refl _) h.nodesZ (by omega) mg4
  clear mg1 mg2
  generalize hkg : (markF g 1).2 = kg at CMG CHG mg3 mg4
  clear hkg
  go_wp2_with fail
  refine (CMG.out).mono ?_
  rintro e w17 ⟨rfl, hgm, ho⟩
  have M := Lib.hid hgm
  clear hgm CMG
  clear G_18
  have HB_19 : Hid (Below w.heap.size w w17) := Lib.hid (HB_18.out.trans (ho.below HB_18.out.size (fun b h => by have := RG.out b h; omega)))
  have V_19 := Lib.hid (V_18.out.only (by omega) ho (fun b h1 h2 h3 => by have := RG.out b h3; omega))
  have kv_19 : w17.cell? ⟨w5.heap.size, 0, none⟩ = some (.slice av g.length cv) := (ho.cell (o := 0) (block_of_cell kv_18) (fun h => by have := RG.out _ h; omega)).trans kv_18
  have kg_19 : w17.cell? ⟨w8.heap.size, 0, none⟩ = some (.slice ag g.length cg) := (ho.cell (o := 0) (block_of_cell kg_18) (fun h => by have := RG.out _ h; omega)).trans kg_18
  have hz_19 := ho.size
  clear ho HB_18 V_18 kv_18 kg_18
  go_wp2_with fail
  refine (CHG.out _ _ M.out).mono ?_
  rintro e w18 ⟨rfl, hb⟩
  have HB_20 : Hid (Below w.heap.size w w18) := Lib.hid (HB_19.out.trans (hb.mono HB_19.out.size))
  have V_20 := Lib.hid (V_19.out.below hb (by omega))
  have kv_20 : w18.cell? ⟨w5.heap.size, 0, none⟩ = some (.slice av g.length cv) := (bcell hb _ _ (block_of_cell kv_19)).trans kv_19
  have kg_20 : w18.cell? ⟨w8.heap.size, 0, none⟩ = some (.slice ag g.length cg) := (bcell hb _ _ (block_of_cell kg_19)).trans kg_19
  have M_20 := Lib.hid (M.out.below hb)
  have hz_20 := hb.size
  clear hb HB_19 V_19 kv_19 kg_19 M
  go_wp2_with fail
  refine (CT0.out w18 HB_20.out).mono ?_
  rintro e w19 ⟨gxh0, psh0, rfl, hxh0, hb⟩
  have Xh0 := Lib.hid hxh0
  clear hxh0
  have HB_21 : Hid (Below w.heap.size w w19) := Lib.hid (HB_20.out.trans (hb.mono HB_20.out.size))
  have V_21 := Lib.hid (V_20.out.below hb (by omega))
  have kv_21 : w19.cell? ⟨w5.heap.size, 0, none⟩ = some (.slice av g.length cv) := (bcell hb _ _ (block_of_cell kv_20)).trans kv_20
  have kg_21 : w19.cell? ⟨w8.heap.size, 0, none⟩ = some (.slice ag g.length cg) := (bcell hb _ _ (block_of_cell kg_20)).trans kg_20
  have M_21 := Lib.hid (M_20.out.below hb)
  have hz_21 := hb.size
  clear hb HB_20 V_20 kv_20 kg_20 M_20
  go_wp2_with fail
  refine (CT1.out w19 HB_21.out).mono ?_
  rintro e w20 ⟨gxh1, psh1, rfl, hxh1, hb⟩
  have Xh1 := Lib.hid hxh1
  clear hxh1
  have HB_22 : Hid (Below w.heap.size w w20) := Lib.hid (HB_21.out.trans (hb.mono HB_21.out.size))
  have V_22 := Lib.hid (V_21.out.below hb (by omega))
  have kv_22 : w20.cell? ⟨w5.heap.size, 0, none⟩ = some (.slice av g.length cv) := (bcell hb _ _ (block_of_cell kv_21)).trans kv_21
  have kg_22 : w20.cell? ⟨w8.heap.size, 0, none⟩ = some (.slice ag g.length cg) := (bcell hb _ _ (block_of_cell kg_21)).trans kg_21
  have M_22 := Lib.hid (M_21.out.below hb)
  have Xh0_22 := Lib.hid (Xh0.out.below hb)
  have hz_22 := hb.size
  clear hb HB_21 V_21 kv_21 kg_21 M_21 Xh0
  go_wp2_with fail
  refine (MakeFormI_copy _ L0 _ L1 r g HR _ Xh0_22.out.copyFS Xh1.out.copyFS).mono ?_
  rintro e w21 ⟨ah, ch, vsh, rfl, hho, hb⟩
  have H := Lib.hid hho
  clear hho
  clear Xh0_22
  clear Xh1
  have HB_23 : Hid (Below w.heap.size w w21) := Lib.hid (HB_22.out.trans (hb.mono HB_22.out.size))
  have V_23 := Lib.hid (V_22.out.below hb (by omega))
  have kv_23 : w21.cell? ⟨w5.heap.size, 0, none⟩ = some (.slice av g.length cv) := (bcell hb _ _ (block_of_cell kv_22)).trans kv_22
  have kg_23 : w21.cell? ⟨w8.heap.size, 0, none⟩ = some (.slice ag g.length cg) := (bcell hb _ _ (block_of_cell kg_22)).trans kg_22
  have M_23 := Lib.hid (M_22.out.below hb)
  have hz_23 := hb.size
  clear hb HB_22 V_22 kv_22 kg_22 M_22
  have hba : Below w21.heap.size w21 (w21.alloc (.cells #[.slice ah g.length ch] 24)) := (Below.refl _ _).alloc (Nat.le_refl _) _
  have kh : (w21.alloc (.cells #[.slice ah g.length ch] 24)).cell? ⟨w21.heap.size, 0, none⟩ = some (.slice ah g.length ch) := by go_simp
  have hzakh : (w21.alloc (.cells #[.slice ah g.length ch] 24)).heap.size ≤ w21.heap.size + 1 ∧ w21.heap.size + 1 ≤ (w21.alloc (.cells #[.slice ah g.length ch] 24)).heap.size := by simp
  have HB_24 : Hid (Below w.heap.size w (w21.alloc (.cells #[.slice ah g.length ch] 24))) := Lib.hid (HB_23.out.trans (hba.mono HB_23.out.size))
  have V_24 := Lib.hid (V_23.out.below hba (by omega))
  have kv_24 : (w21.alloc (.cells #[.slice ah g.length ch] 24)).cell? ⟨w5.heap.size, 0, none⟩ = some (.slice av g.length cv) := (bcell hba _ _ (block_of_cell kv_23)).trans kv_23
  have kg_24 : (w21.alloc (.cells #[.slice ah g.length ch] 24)).cell? ⟨w8.heap.size, 0, none⟩ = some (.slice ag g.length cg) := (bcell hba _ _ (block_of_cell kg_23)).trans kg_23
  have M_24 := Lib.hid (M_23.out.below hba)
  have H_24 := Lib.hid (H.out.below hba)
  have hz_24 := hba.size
  clear hba HB_23 V_23 kv_23 kg_23 M_23 H
  go_wp2_with fail
  refine (eqForm_copy _ _ g _ H_24.out.copyO ⟨_, _, by omega, V_24.out⟩).mono ?_
  rintro e w22 ⟨rfl, hb⟩
  have HB_25 : Hid (Below w.heap.size w w22) := Lib.hid (HB_24.out.trans (hb.mono HB_24.out.size))
  have V_25 := Lib.hid (V_24.out.below hb (by omega))
  have kv_25 : w22.cell? ⟨w5.heap.size, 0, none⟩ = some (.slice av g.length cv) := (bcell hb _ _ (block_of_cell kv_24)).trans kv_24
  have kg_25 : w22.cell? ⟨w8.heap.size, 0, none⟩ = some (.slice ag g.length cg) := (bcell hb _ _ (block_of_cell kg_24)).trans kg_24
  have M_25 := Lib.hid (M_24.out.below hb)
  have H_25 := Lib.hid (H_24.out.below hb)
  have kh_25 : w22.cell? ⟨w21.heap.size, 0, none⟩ = some (.slice ah g.length ch) := (bcell hb _ _ (block_of_cell kh)).trans kh
  have hz_25 := hb.size
  clear hb HB_24 V_24 kv_24 kg_24 M_24 H_24 kh
  go_wp2_with fail
  refine (CHG.out _ _ M_25.out).mono ?_
  rintro e w23 ⟨rfl, hb⟩
  have HB_26 : Hid (Below w.heap.size w w23) := Lib.hid (HB_25.out.trans (hb.mono HB_25.out.size))
  have V_26 := Lib.hid (V_25.out.below hb (by omega))
  have kv_26 : w23.cell? ⟨w5.heap.size, 0, none⟩ = some (.slice av g.length cv) := (bcell hb _ _ (block_of_cell kv_25)).trans kv_25
  have kg_26 : w23.cell? ⟨w8.heap.size, 0, none⟩ = some (.slice ag g.length cg) := (bcell hb _ _ (block_of_cell kg_25)).trans kg_25
  have M_26 := Lib.hid (M_25.out.below hb)
  have H_26 := Lib.hid (H_25.out.below hb)
  have kh_26 : w23.cell? ⟨w21.heap.size, 0, none⟩ = some (.slice ah g.length ch) := (bcell hb _ _ (block_of_cell kh_25)).trans kh_25
  have hz_26 := hb.size
  clear hb HB_25 V_25 kv_25 kg_25 M_25 H_25 kh_25
  go_wp2_with fail
  go_ret
  exact ⟨rfl, HB_26.out⟩

end Go.Proofs.Ytgbpnegdoilfnaa
