/- The program's MinusForms. -/
import Derived.Test.YtjllpcnbahdmhaaGreatSmM
import Derived.Test.YtjllpcnbahdmhaaGreatNgI
import Derived.Test.YtjllpcnbahdmhaaGreatSmP
namespace Go.Proofs.YtjllpcnbahdmhaaGreat
open Go.RowKit
set_option linter.unusedVariables false
set_option linter.unusedSimpArgs false

set_option maxRecDepth 100000 in
set_option maxHeartbeats 2000000 in
theorem minusI_calls (va vb : Value) (f g h : List Nz) (ok : Bool) (hok : Hid (mnOk f g = ok)) (hv : Hid (mnV f g = h)) (w : World) (lo hi lo' hi' : Nat) (hh : hi ≤ w.heap.size) (hh' : hi' ≤ w.heap.size) (hva : NodesZ w lo hi va f) (hvb : NodesZ w lo' hi' vb g) :
    Calls Tryz.prog 9 #[.agg #[va], .agg #[vb]] w fun e w' => ∃ a c vs, e = .returned (.tuple #[.agg #[.slice a h.length c], .bool ok]) ∧ OwnF w' w.heap.size (.slice a h.length c) vs h ∧ Below w.heap.size w w' := by
  have HB0 := Lib.hid fun o o' o'' => show Below w.heap.size w (((w.alloc o).alloc o').alloc o'') from (((Below.refl _ _).alloc (Nat.le_refl _) _).alloc (by simp) _).alloc (by simp; omega) _
  obtain ⟨r, hr⟩ : ∃ r, goodB g = r := ⟨_, rfl⟩
  obtain ⟨n, hn⟩ : ∃ n, negV g = n := ⟨_, rfl⟩
  have CN := Lib.hid fun (W : World) (hW : Below w.heap.size w W) => negI_calls vb g n r (Lib.hid hr) (Lib.hid hn) W lo' hi' (Nat.le_trans hh' hW.size) (hvb.below hW hh')
  have HVA := Lib.hid fun (W : World) (hW : Below w.heap.size w W) => hva.below hW hh
  obtain ⟨aa, ca, rfl⟩ : ∃ ao c, va = .slice ao f.length c := by obtain ⟨ao, c, e, _⟩ := hva; exact ⟨ao, c, e⟩
  obtain ⟨ab, cb, rfl⟩ : ∃ ao c, vb = .slice ao g.length c := by obtain ⟨ao, c, e, _⟩ := hvb; exact ⟨ao, c, e⟩
  clear hva hvb
  go_enter Tryz.func9, Tryz.ntmps9
  go_wp2_with fail
  refine (CN.out _ (HB0.out _ _ _)).mono ?_
  rintro e w4 ⟨an, cn, vsn, rfl, hon, hb4⟩
  have k1 : w4.cell? ⟨w.heap.size, 0, none⟩ = some (.slice aa f.length ca) := (bcell hb4 _ _ (by simp; omega)).trans (by go_simp)
  obtain ⟨d0, z0⟩ : BoxAt w4 (w.heap.size + 1 + 1) (.slice none 0 0) := BoxAt.below ⟨by go_simp, by go_simp⟩ hb4
  have HB4 := Lib.hid (Below.trans (HB0.out _ _ _) (hb4.mono (by simp; omega)))
  have hlt := block_of_cell d0
  have hl1 := block_of_cell k1
  have HN4 := Lib.hid hon.nodesZ
  have hs4 : w.heap.size ≤ w4.heap.size := HB4.out.size
  have HB5 : Hid (Below w.heap.size w (w4.alloc (.cells #[.slice an n.length cn] 28))) := Lib.hid (HB4.out.alloc hs4 _)
  have hba : Below w4.heap.size w4 (w4.alloc (.cells #[.slice an n.length cn] 28)) := (Below.refl _ _).alloc (Nat.le_refl _) _
  obtain ⟨d1, z1⟩ := BoxAt.below ⟨d0, z0⟩ hba
  have k1 := (bcell hba _ _ hl1).trans k1
  have HNA := Lib.hid (HN4.out.below hba (Nat.le_refl _))
  have hsa : (w4.alloc (.cells #[.slice an n.length cn] 28)).heap.size = w4.heap.size + 1 := by simp
  clear hb4 CN hon HN4 d0 z0 hlt
  cases r with
  | false =>
    obtain rfl : h = [] := by rw [← hv.out, mnV_no hr]
    obtain rfl : ok = false := by rw [← hok.out, mnOk_no hr]
    have B4 := Lib.hid (HB5.out.setCell (p := ⟨w.heap.size + 1 + 1, 0, none⟩) (by show w.heap.size ≤ w.heap.size + 1 + 1; omega) (.slice none 0 0))
    have hcr := World.cell?_setCell_same _ ⟨w.heap.size + 1 + 1, 0, none⟩ (.slice none 0 0) d1
    clear hba
    go_wp2_with fail
    exact bodyPost_ret (v := .tuple #[.agg #[.slice none 0 0], .bool false]) (by simp [results, Tryz.results9, go_sem, hcr]) rfl ⟨none, 0, [], rfl, OwnF.nil _ _, B4.out⟩
  | true =>
    have HOK : Hid (sumOk f n = ok) := Lib.hid (by rw [← hn, ← hok.out, mnOk_good hr])
    have HV : Hid (sumV f n = h) := Lib.hid (by rw [← hn, ← hv.out, mnV_good hr])
    have CS := Lib.hid (sumI_calls (.slice aa f.length ca) (.slice an n.length cn) f n h ok HOK HV _ lo hi _ _ (Nat.le_trans hh HB5.out.size) (by rw [hsa]; omega) (HVA.out _ HB5.out) HNA.out)
    have hx1 : BoxAt (w4.alloc (.cells #[.slice an n.length cn] 28)) (w.heap.size + 1 + 1) (.slice none 0 0) := ⟨d1, z1⟩
    have HS5 := Lib.hid HB5.out.size
    have hlx := block_of_cell d1
    clear hba hok hv hr hn
    go_wp2_with fail
    refine CS.out.mono ?_
    rintro e w6 ⟨a, c, vs6, rfl, ho6, hb6⟩
    obtain ⟨d6, z6⟩ : BoxAt w6 (w.heap.size + 1 + 1) (.slice none 0 0) := BoxAt.below hx1 hb6
    have HO : Hid (OwnF (w6.setCell ⟨w.heap.size + 1 + 1, 0, none⟩ (.slice a h.length c)) w.heap.size (.slice a h.length c) vs6 h) := Lib.hid ((ho6.setCell hlx).mono HS5.out)
    have HB6 : Hid (RowKit.Below w.heap.size w (w6.setCell ⟨w.heap.size + 1 + 1, 0, none⟩ (.slice a h.length c))) := Lib.hid ((HB5.out.trans (hb6.mono HS5.out)).setCell (by show w.heap.size ≤ w.heap.size + 1 + 1; omega) _)
    have hcr := World.cell?_setCell_same w6 ⟨w.heap.size + 1 + 1, 0, none⟩ (.slice a h.length c) d6
    clear ho6 hb6 hx1 CS
    go_wp2_with fail
    exact bodyPost_ret (v := .tuple #[.agg #[.slice a h.length c], .bool ok]) (by simp [results, Tryz.results9, go_sem, hcr]) rfl ⟨a, c, vs6, rfl, HO.out, HB6.out⟩

end Go.Proofs.YtjllpcnbahdmhaaGreat
