/- The walk of laws.FnExactUpsForm. -/
import Derived.Test.YtgbpnegdoilfnaaUpAll
import Derived.Test.YtgbpnegdoilfnaaFmHeld
namespace Go.Proofs.Ytgbpnegdoilfnaa
open Go.RowKit
set_option linter.unusedVariables false
set_option linter.unusedSimpArgs false

set_option maxRecDepth 100000 in
set_option maxHeartbeats 8000000 in
theorem fnExactUpsForm_walk (n0 : Int) (n1 : Int) (w : World)  :
    Calls Try.prog 4 #[.int .i64 n0, .int .i64 n1] w fun e w' => e = .returned (.bool true) ∧ Below w.heap.size w w' := by
  obtain ⟨r, hr⟩ : ∃ r, upOk n0 n1 = r := ⟨_, rfl⟩
  obtain ⟨g, hg⟩ : ∃ g, upV n0 n1 = g := ⟨_, rfl⟩
  have HGZ : Hid ((g.map szN).sum ≤ 5760) := Lib.hid (by rw [← hg]; exact upV_sz n0 n1)
  have HR := Lib.hid (And.intro hg hr)
  clear hg hr
  have q2 : (r != r) = false := by simp
  have HB0 : Hid (Below w.heap.size w w) := Lib.hid (Below.refl _ _)
  go_enter Try.func4, Try.ntmps4
  go_wp2_with fail
  refine (UpsFormM_copy n0 n1 r g HR w ).mono ?_
  rintro e w1 ⟨av, cv, rfl, hv, hb⟩
  have V := Lib.hid hv
  clear hv
  have HB_1 : Hid (Below w.heap.size w w1) := Lib.hid (HB0.out.trans (hb.mono HB0.out.size))
  have hz_1 := hb.size
  clear hb HB0
  have hba : Below w1.heap.size w1 (w1.alloc (.cells #[.slice av g.length cv] 24)) := (Below.refl _ _).alloc (Nat.le_refl _) _
  have kv : (w1.alloc (.cells #[.slice av g.length cv] 24)).cell? ⟨w1.heap.size, 0, none⟩ = some (.slice av g.length cv) := by go_simp
  have hzakv : (w1.alloc (.cells #[.slice av g.length cv] 24)).heap.size ≤ w1.heap.size + 1 ∧ w1.heap.size + 1 ≤ (w1.alloc (.cells #[.slice av g.length cv] 24)).heap.size := by simp
  have HB_2 : Hid (Below w.heap.size w (w1.alloc (.cells #[.slice av g.length cv] 24))) := Lib.hid (HB_1.out.trans (hba.mono HB_1.out.size))
  have V_2 := Lib.hid (V.out.below hba (by omega))
  have hz_2 := hba.size
  clear hba HB_1 V
  go_wp2_with fail
  refine (UpsFormI_copy n0 n1 r g HR _ ).mono ?_
  rintro e w2 ⟨ag, cg, vsg, rfl, hgo, hb⟩
  have G := Lib.hid hgo
  clear hgo
  have HB_3 : Hid (Below w.heap.size w w2) := Lib.hid (HB_2.out.trans (hb.mono HB_2.out.size))
  have V_3 := Lib.hid (V_2.out.below hb (by omega))
  have kv_3 : w2.cell? ⟨w1.heap.size, 0, none⟩ = some (.slice av g.length cv) := (bcell hb _ _ (block_of_cell kv)).trans kv
  have hz_3 := hb.size
  clear hb HB_2 V_2 kv
  have RG : Hid (∀ b, BlkF vsg b → (w1.alloc (.cells #[.slice av g.length cv] 24)).heap.size ≤ b ∧ b < w2.heap.size) := Lib.hid (fun b hb => G.out.blk hb)
  have hba : Below w2.heap.size w2 (w2.alloc (.cells #[.slice ag g.length cg] 24)) := (Below.refl _ _).alloc (Nat.le_refl _) _
  have kg : (w2.alloc (.cells #[.slice ag g.length cg] 24)).cell? ⟨w2.heap.size, 0, none⟩ = some (.slice ag g.length cg) := by go_simp
  have hzakg : (w2.alloc (.cells #[.slice ag g.length cg] 24)).heap.size ≤ w2.heap.size + 1 ∧ w2.heap.size + 1 ≤ (w2.alloc (.cells #[.slice ag g.length cg] 24)).heap.size := by simp
  have HB_4 : Hid (Below w.heap.size w (w2.alloc (.cells #[.slice ag g.length cg] 24))) := Lib.hid (HB_3.out.trans (hba.mono HB_3.out.size))
  have V_4 := Lib.hid (V_3.out.below hba (by omega))
  have kv_4 : (w2.alloc (.cells #[.slice ag g.length cg] 24)).cell? ⟨w1.heap.size, 0, none⟩ = some (.slice av g.length cv) := (bcell hba _ _ (block_of_cell kv_3)).trans kv_3
  have G_4 := Lib.hid (G.out.below hba)
  have hz_4 := hba.size
  clear hba HB_3 V_3 kv_3 G
  go_wp2_with fail
  refine (eqForm_copy _ _ g _ G_4.out.copyO ⟨_, _, by omega, V_4.out⟩).mono ?_
  rintro e w3 ⟨rfl, hb⟩
  have HB_5 : Hid (Below w.heap.size w w3) := Lib.hid (HB_4.out.trans (hb.mono HB_4.out.size))
  have V_5 := Lib.hid (V_4.out.below hb (by omega))
  have kv_5 : w3.cell? ⟨w1.heap.size, 0, none⟩ = some (.slice av g.length cv) := (bcell hb _ _ (block_of_cell kv_4)).trans kv_4
  have G_5 := Lib.hid (G_4.out.below hb)
  have kg_5 : w3.cell? ⟨w2.heap.size, 0, none⟩ = some (.slice ag g.length cg) := (bcell hb _ _ (block_of_cell kg)).trans kg
  have hz_5 := hb.size
  clear hb HB_4 V_4 kv_4 G_4 kg
  have mg1 := markF_end g 1
  have mg2 := HGZ.out
  have mg3 : (1 : Int) ≤ (markF g 1).2 := by omega
  have mg4 : (markF g 1).2 ≤ 1000000000 := by omega
  have CMG := Lib.hid (markForm_own _ vsg g 1 _ _ G_5.out (by omega) mg4)
  have CHG := Lib.hid fun W base (h : OwnF W base (.slice ag g.length cg) vsg (markF g 1).1) => heldForm_calls _ g 1 W _ _ (Nat.le_refl _) h.nodesZ (by omega) mg4
  clear mg1 mg2
  generalize hkg : (markF g 1).2 = kg at CMG CHG mg3 mg4
  clear hkg
  go_wp2_with fail
  refine (CMG.out).mono ?_
  rintro e w4 ⟨rfl, hgm, ho⟩
  have M := Lib.hid hgm
  clear hgm CMG
  clear G_5
  have HB_6 : Hid (Below w.heap.size w w4) := Lib.hid (HB_5.out.trans (ho.below HB_5.out.size (fun b h => by have := RG.out b h; omega)))
  have V_6 := Lib.hid (V_5.out.only (by omega) ho (fun b h1 h2 h3 => by have := RG.out b h3; omega))
  have kv_6 : w4.cell? ⟨w1.heap.size, 0, none⟩ = some (.slice av g.length cv) := (ho.cell (o := 0) (block_of_cell kv_5) (fun h => by have := RG.out _ h; omega)).trans kv_5
  have kg_6 : w4.cell? ⟨w2.heap.size, 0, none⟩ = some (.slice ag g.length cg) := (ho.cell (o := 0) (block_of_cell kg_5) (fun h => by have := RG.out _ h; omega)).trans kg_5
  have hz_6 := ho.size
  clear ho HB_5 V_5 kv_5 kg_5
  go_wp2_with fail
  refine (CHG.out _ _ M.out).mono ?_
  rintro e w5 ⟨rfl, hb⟩
  have HB_7 : Hid (Below w.heap.size w w5) := Lib.hid (HB_6.out.trans (hb.mono HB_6.out.size))
  have V_7 := Lib.hid (V_6.out.below hb (by omega))
  have kv_7 : w5.cell? ⟨w1.heap.size, 0, none⟩ = some (.slice av g.length cv) := (bcell hb _ _ (block_of_cell kv_6)).trans kv_6
  have kg_7 : w5.cell? ⟨w2.heap.size, 0, none⟩ = some (.slice ag g.length cg) := (bcell hb _ _ (block_of_cell kg_6)).trans kg_6
  have M_7 := Lib.hid (M.out.below hb)
  have hz_7 := hb.size
  clear hb HB_6 V_6 kv_6 kg_6 M
  go_wp2_with fail
  refine (UpsFormI_copy n0 n1 r g HR _ ).mono ?_
  rintro e w6 ⟨ah, ch, vsh, rfl, hho, hb⟩
  have H := Lib.hid hho
  clear hho
  have HB_8 : Hid (Below w.heap.size w w6) := Lib.hid (HB_7.out.trans (hb.mono HB_7.out.size))
  have V_8 := Lib.hid (V_7.out.below hb (by omega))
  have kv_8 : w6.cell? ⟨w1.heap.size, 0, none⟩ = some (.slice av g.length cv) := (bcell hb _ _ (block_of_cell kv_7)).trans kv_7
  have kg_8 : w6.cell? ⟨w2.heap.size, 0, none⟩ = some (.slice ag g.length cg) := (bcell hb _ _ (block_of_cell kg_7)).trans kg_7
  have M_8 := Lib.hid (M_7.out.below hb)
  have hz_8 := hb.size
  clear hb HB_7 V_7 kv_7 kg_7 M_7
  have hba : Below w6.heap.size w6 (w6.alloc (.cells #[.slice ah g.length ch] 24)) := (Below.refl _ _).alloc (Nat.le_refl _) _
  have kh : (w6.alloc (.cells #[.slice ah g.length ch] 24)).cell? ⟨w6.heap.size, 0, none⟩ = some (.slice ah g.length ch) := by go_simp
  have hzakh : (w6.alloc (.cells #[.slice ah g.length ch] 24)).heap.size ≤ w6.heap.size + 1 ∧ w6.heap.size + 1 ≤ (w6.alloc (.cells #[.slice ah g.length ch] 24)).heap.size := by simp
  have HB_9 : Hid (Below w.heap.size w (w6.alloc (.cells #[.slice ah g.length ch] 24))) := Lib.hid (HB_8.out.trans (hba.mono HB_8.out.size))
  have V_9 := Lib.hid (V_8.out.below hba (by omega))
  have kv_9 : (w6.alloc (.cells #[.slice ah g.length ch] 24)).cell? ⟨w1.heap.size, 0, none⟩ = some (.slice av g.length cv) := (bcell hba _ _ (block_of_cell kv_8)).trans kv_8
  have kg_9 : (w6.alloc (.cells #[.slice ah g.length ch] 24)).cell? ⟨w2.heap.size, 0, none⟩ = some (.slice ag g.length cg) := (bcell hba _ _ (block_of_cell kg_8)).trans kg_8
  have M_9 := Lib.hid (M_8.out.below hba)
  have H_9 := Lib.hid (H.out.below hba)
  have hz_9 := hba.size
  clear hba HB_8 V_8 kv_8 kg_8 M_8 H
  go_wp2_with fail
  refine (eqForm_copy _ _ g _ H_9.out.copyO ⟨_, _, by omega, V_9.out⟩).mono ?_
  rintro e w7 ⟨rfl, hb⟩
  have HB_10 : Hid (Below w.heap.size w w7) := Lib.hid (HB_9.out.trans (hb.mono HB_9.out.size))
  have V_10 := Lib.hid (V_9.out.below hb (by omega))
  have kv_10 : w7.cell? ⟨w1.heap.size, 0, none⟩ = some (.slice av g.length cv) := (bcell hb _ _ (block_of_cell kv_9)).trans kv_9
  have kg_10 : w7.cell? ⟨w2.heap.size, 0, none⟩ = some (.slice ag g.length cg) := (bcell hb _ _ (block_of_cell kg_9)).trans kg_9
  have M_10 := Lib.hid (M_9.out.below hb)
  have H_10 := Lib.hid (H_9.out.below hb)
  have kh_10 : w7.cell? ⟨w6.heap.size, 0, none⟩ = some (.slice ah g.length ch) := (bcell hb _ _ (block_of_cell kh)).trans kh
  have hz_10 := hb.size
  clear hb HB_9 V_9 kv_9 kg_9 M_9 H_9 kh
  go_wp2_with fail
  refine (CHG.out _ _ M_10.out).mono ?_
  rintro e w8 ⟨rfl, hb⟩
  have HB_11 : Hid (Below w.heap.size w w8) := Lib.hid (HB_10.out.trans (hb.mono HB_10.out.size))
  have V_11 := Lib.hid (V_10.out.below hb (by omega))
  have kv_11 : w8.cell? ⟨w1.heap.size, 0, none⟩ = some (.slice av g.length cv) := (bcell hb _ _ (block_of_cell kv_10)).trans kv_10
  have kg_11 : w8.cell? ⟨w2.heap.size, 0, none⟩ = some (.slice ag g.length cg) := (bcell hb _ _ (block_of_cell kg_10)).trans kg_10
  have M_11 := Lib.hid (M_10.out.below hb)
  have H_11 := Lib.hid (H_10.out.below hb)
  have kh_11 : w8.cell? ⟨w6.heap.size, 0, none⟩ = some (.slice ah g.length ch) := (bcell hb _ _ (block_of_cell kh_10)).trans kh_10
  have hz_11 := hb.size
  clear hb HB_10 V_10 kv_10 kg_10 M_10 H_10 kh_10
  go_wp2_with fail
  go_ret
  exact ⟨rfl, HB_11.out⟩

end Go.Proofs.Ytgbpnegdoilfnaa
