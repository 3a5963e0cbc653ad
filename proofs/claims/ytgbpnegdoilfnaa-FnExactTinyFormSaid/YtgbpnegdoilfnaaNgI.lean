/- The program's NegForm. -/
import Derived.Test.YtgbpnegdoilfnaaSmM
import Derived.Test.YtgbpnegdoilfnaaInForm
import Derived.Deep.RegionHeld3
namespace Go.Proofs.Ytgbpnegdoilfnaa
section
open Go.RowKit
set_option linter.unusedVariables false
set_option linter.unusedSimpArgs false

set_option maxRecDepth 100000 in
set_option maxHeartbeats 1000000 in
theorem negI_calls (va : Value) (f g : List Nz) (ok : Bool) (hok : Hid (goodB f = ok)) (hg : Hid (negV f = g)) (w : World) (lo hi : Nat) (hh : hi ≤ w.heap.size) (hva : NodesZ w lo hi va f) :
    Calls Try.prog 47 #[.agg #[va]] w fun e w' => ∃ a c vs, e = .returned (.tuple #[.agg #[.slice a g.length c], .bool ok]) ∧ OwnF w' w.heap.size (.slice a g.length c) vs g ∧ Below w.heap.size w w' := by
  obtain ⟨iN, hiN, hzN0, hzN1, hzN2⟩ := info_parts infoNodeA
  have HB0 := Lib.hid fun o o' => show Below w.heap.size w ((w.alloc o).alloc o') from ((Below.refl _ _).alloc (Nat.le_refl _) _).alloc (by simp) _
  have CG := Lib.hid fun (W : World) (hW : Below w.heap.size w W) => goodI_res va f ok hok W lo hi (Nat.le_trans hh hW.size) (hva.below hW hh)
  have HVA := Lib.hid fun (W : World) (hW : Below w.heap.size w W) => hva.below hW hh
  obtain ⟨ao, c0, rfl⟩ : ∃ ao c, va = .slice ao f.length c := by obtain ⟨ao, c, e, _⟩ := hva; exact ⟨ao, c, e⟩
  clear hva
  go_enter Try.func47, Try.ntmps47
  go_wp2_with fail
  refine (CG.out _ (HB0.out _ _)).mono ?_
  rintro e w4 ⟨rfl, hb4⟩
  have k0 : w4.cell? ⟨w.heap.size, 0, none⟩ = some (.slice ao f.length c0) := (bcell hb4 _ _ (by simp; omega)).trans (by go_simp)
  obtain ⟨d0, z0⟩ : BoxAt w4 (w.heap.size + 1) (.slice none 0 0) := BoxAt.below ⟨by go_simp, by go_simp⟩ hb4
  have HB4 := Lib.hid (Below.trans (HB0.out _ _) (hb4.mono (by simp; omega)))
  have hlt := block_of_cell d0
  clear hb4 CG
  cases ok with
  | false =>
    obtain rfl : g = [] := by rw [← hg.out, negV_no hok.out]
    have B4 := Lib.hid (HB4.out.setCell (p := ⟨w.heap.size + 1, 0, none⟩) (by show w.heap.size ≤ w.heap.size + 1; omega) (.slice none 0 0))
    have hcr := World.cell?_setCell_same w4 ⟨w.heap.size + 1, 0, none⟩ (.slice none 0 0) d0
    go_wp2_with fail
    exact bodyPost_ret (v := .tuple #[.agg #[.slice none 0 0], .bool false]) (by simp [results, Try.results47, go_sem, hcr]) rfl ⟨none, 0, [], rfl, OwnF.nil _ _, B4.out⟩
  | true =>
    obtain ⟨hf1, hf2, hf3, hf4⟩ := (goodB_iff f).1 hok.out
    have hfl := hf1.2.1
    have HU := Lib.hid hf2.up.2.under
    have HUP := Lib.hid hf2.up.1
    have HUS := Lib.hid hf4
    have HSM := Lib.hid hf1.2.2
    have hpos := hf1.1
    have HGV : Hid ((formM (swapN (f.map downN))).map upN = g) := Lib.hid (by rw [← hg.out, negV_yes hok.out])
    have HFT := Lib.hid (neg_fits f hok.out)
    clear hf1 hf2 hf3 hf4 hok hg
    go_wp2_with (at_make; refine wpList_make_full _ rfl _ _ 22 rfl w4.heap.size 73 iN (.agg #[.slice none 0 0, .slice none 0 0]) 2 Try.underlying22 hiN hzN0 hzN1 _ _ _ _ f.length rfl rfl (by first | rfl | (simp; done)) (by first | rfl | (simp; done)) (by rw [hzN2]; omega) (by unfold maxLen; omega) (Nat.le_refl _) ?_; intro w5 hown hgr; have hb45 : Below w4.heap.size w4 w5 := (Below.refl _ _).grown hgr (Nat.le_refl _) (fun k hk => by cases hk); have k5 := (bcell hb45 _ _ (block_of_cell k0)).trans k0)
    have HR := Lib.hid (RowZ.made (F := (swapN (f.map downN)).map upN) hown)
    have HB5 := Lib.hid (HB4.out.trans (hb45.mono HB4.out.size))
    have b5 : BoxAt w5 (w.heap.size + 1) (.slice none 0 0) := BoxAt.below ⟨d0, z0⟩ hb45
    have hgw := (World.ownsRow.lt hown _ rfl).2
    have hs4 := HB4.out.size
    have HX5 := Lib.hid b5
    clear hown hgr hb45 k0 d0 z0 b5 HB4
    go_wp2
    go_loopw [18] (fun i wr => ∃ (k : Nat) (vs : List (Value × Value)), k ≤ f.length ∧ i = .int .i64 k ∧ Hid (RowZ wr w4.heap.size w4.heap.size f.length vs ((swapN (f.map downN)).map upN) k) ∧ Hid (Below w.heap.size w wr) ∧ Hid (BoxAt wr (w.heap.size + 1) (.slice none 0 0)) ∧ w4.heap.size < wr.heap.size) (fun i _ => f.length - (intOf i).toNat)
    case atStart => exact ⟨0, _, Nat.zero_le _, rfl, HR, HB5, HX5, hgw⟩
    case round =>
      obtain ⟨k, vs, hk, rfl, hr, hb, hx, hs⟩ := hrel
      clear HR HB5 HX5
      by_cases hlt2 : k < f.length
      · obtain ⟨nd, hnd⟩ := lt_get (l := f.map downN) (i := k) (by simpa using hlt2)
        obtain ⟨b, off, cc, v1, v2, e, hbh, p1, p2, i1, i2⟩ := nodes_atP (by rw [HUP.out]; exact HVA.out wr hb.out) hnd
        rw [show (f.map downN).length = f.length from by simp] at e
        obtain ⟨q1, q2, q3⟩ := slice_inj e
        clear q2
        subst q1 q3
        obtain ⟨a1, d1, rfl, hd1⟩ := ints_lenP i1
        obtain ⟨a2, d2, rfl, hd2⟩ := ints_lenP i2
        obtain ⟨po, hpo, m1, m2, mf1, mf2⟩ := hr.out.cells hlt2
        have hs5 := hb.out.size
        have X1 : IntsX wr w4.heap.size (.slice a1 nd.1.length d1) (upL nd.1) := ⟨lo, hi, Nat.le_trans hh hs5, Or.inr (by omega), i1⟩
        have X2 : IntsX wr w4.heap.size (.slice a2 nd.2.length d2) (upL nd.2) := ⟨lo, hi, Nat.le_trans hh hs5, Or.inr (by omega), i2⟩
        have ho1 : Only wr ((wr.setCell ⟨w4.heap.size, k * 2, none⟩ (.slice a2 nd.2.length d2)).setCell ⟨w4.heap.size, k * 2 + 1, none⟩ (.slice a1 nd.1.length d1)) (fun q => q = w4.heap.size) := (Only.of_set (F := fun q => q = w4.heap.size) (p := ⟨w4.heap.size, k * 2, none⟩) _ rfl).trans (Only.of_set (F := fun q => q = w4.heap.size) (p := ⟨w4.heap.size, k * 2 + 1, none⟩) _ rfl) (fun _ _ h => h)
        have hal : RowKit.Below ((wr.setCell ⟨w4.heap.size, k * 2, none⟩ (.slice a2 nd.2.length d2)).setCell ⟨w4.heap.size, k * 2 + 1, none⟩ (.slice a1 nd.1.length d1)).heap.size ((wr.setCell ⟨w4.heap.size, k * 2, none⟩ (.slice a2 nd.2.length d2)).setCell ⟨w4.heap.size, k * 2 + 1, none⟩ (.slice a1 nd.1.length d1)) (((wr.setCell ⟨w4.heap.size, k * 2, none⟩ (.slice a2 nd.2.length d2)).setCell ⟨w4.heap.size, k * 2 + 1, none⟩ (.slice a1 nd.1.length d1)).alloc (.cells #[.slice a1 nd.1.length d1, .slice a2 nd.2.length d2] 73)) := (RowKit.Below.refl _ _).alloc (Nat.le_refl _) _
        have R3 := Lib.hid ((hr.out.set (k := k) (nd := upN (nd.2, nd.1)) (p := (.slice a2 nd.2.length d2, .slice a1 nd.1.length d1)) hlt2 (by rw [List.getElem?_map, swapN_at hnd]; rfl) X2 X1).below hal)
        have ho : Only wr (((wr.setCell ⟨w4.heap.size, k * 2, none⟩ (.slice a2 nd.2.length d2)).setCell ⟨w4.heap.size, k * 2 + 1, none⟩ (.slice a1 nd.1.length d1)).alloc (.cells #[.slice a1 nd.1.length d1, .slice a2 nd.2.length d2] 73)) (fun q => q = w4.heap.size) := ho1.trans (Only.of_below hal) (fun _ _ h => h)
        have B3 := Lib.hid (hb.out.trans (ho.below hs5 (fun q e => by omega)))
        have X3 := Lib.hid (hx.out.only ho (by omega))
        have S3 := ho.size
        have k0 : (0 : Int) ≤ k := by omega
        have k1 : (k : Int) < f.length := by omega
        clear e i1 i2 X1 X2 hal ho ho1 hr hb hx hnd hpo
        go_wp2
        go_roundw
        case rel => exact ⟨k + 1, _, by omega, by go_num, R3, B3, X3, by omega⟩
        case measure => first | (simp [intOf]; done) | (simp [intOf]; omega)
      · have hke : k = f.length := by omega
        subst hke
        have hsl : (swapN (f.map downN)).length = f.length := by rw [swapN_len, List.length_map]
        have C := Lib.hid (formOf_calls (.slice (some ⟨w4.heap.size, 0, none⟩) f.length f.length) (swapN (f.map downN)) g true wr 0 wr.heap.size (Nat.le_refl _) (hr.out.nodesZ (by rw [List.length_map, hsl])) (swapN_under HU.out) (by omega) (swapN_reach HU.out HUS.out) (by omega) (fun nd hnd => by
          unfold swapN at hnd
          rw [List.map_map] at hnd
          obtain ⟨x, hx, rfl⟩ := List.mem_map.1 hnd
          have := HSM.out x hx
          simp only [Function.comp, downN, downL, List.length_map]
          omega) HFT (Lib.hid (by rw [outV_yes HFT.out, HGV.out])))
        have hbx := hx.out
        have hsb := hb.out.size
        have HB := Lib.hid hb.out
        clear hr hb hsl
        go_wp2_with fail
        refine C.out.mono ?_
        rintro e w6 ⟨a, c, vs6, rfl, ho6, hb6⟩
        obtain ⟨d6, z6⟩ : BoxAt w6 (w.heap.size + 1) (.slice none 0 0) := BoxAt.below hbx hb6
        have HO : Hid (OwnF (w6.setCell ⟨w.heap.size + 1, 0, none⟩ (.slice a g.length c)) w.heap.size (.slice a g.length c) vs6 g) := Lib.hid ((ho6.setCell (by show w.heap.size + 1 < wr.heap.size; omega)).mono hsb)
        have HB6 : Hid (RowKit.Below w.heap.size w (w6.setCell ⟨w.heap.size + 1, 0, none⟩ (.slice a g.length c))) := Lib.hid ((HB.out.trans (hb6.mono hsb)).setCell (by show w.heap.size ≤ w.heap.size + 1; omega) _)
        have hcr := World.cell?_setCell_same w6 ⟨w.heap.size + 1, 0, none⟩ (.slice a g.length c) d6
        clear ho6 hb6 hbx C
        go_wp2_with fail
        exact bodyPost_ret (v := .tuple #[.agg #[.slice a g.length c], .bool true]) (by simp [results, Try.results47, go_sem, hcr]) rfl ⟨a, c, vs6, rfl, HO.out, HB6.out⟩
end


end Go.Proofs.Ytgbpnegdoilfnaa
