/- The model's MinusForms. -/
import Derived.Test.YtjllpcnbahdmhaaGreatSmQ
import Derived.Test.YtjllpcnbahdmhaaGreatNgL
namespace Go.Proofs.YtjllpcnbahdmhaaGreat
open Go.RowKit
set_option linter.unusedVariables false
set_option linter.unusedSimpArgs false

theorem mn_next {w W1 W2 : World} {va vb : Value} (h : W1.cell? ⟨w.heap.size, 0, none⟩ = some va ∧ W1.cell? ⟨w.heap.size + 1, 0, none⟩ = some vb ∧ Below w.heap.size w W1) (hb : Below W1.heap.size W1 W2) :
    W2.cell? ⟨w.heap.size, 0, none⟩ = some va ∧ W2.cell? ⟨w.heap.size + 1, 0, none⟩ = some vb ∧ Below w.heap.size w W2 :=
  ⟨(bcell hb _ _ (block_of_cell h.1)).trans h.1, (bcell hb _ _ (block_of_cell h.2.1)).trans h.2.1, h.2.2.trans (hb.mono h.2.2.size)⟩
theorem mn_set {w W1 : World} {va vb x : Value} (h : W1.cell? ⟨w.heap.size, 0, none⟩ = some va ∧ W1.cell? ⟨w.heap.size + 1, 0, none⟩ = some vb ∧ Below w.heap.size w W1) :
    (W1.setCell ⟨w.heap.size + 1 + 1, 0, none⟩ x).cell? ⟨w.heap.size, 0, none⟩ = some va ∧ (W1.setCell ⟨w.heap.size + 1 + 1, 0, none⟩ x).cell? ⟨w.heap.size + 1, 0, none⟩ = some vb ∧ Below w.heap.size w (W1.setCell ⟨w.heap.size + 1 + 1, 0, none⟩ x) :=
  ⟨(World.cell?_setCell_other _ _ _ _ (fun e => by injection e with e _ _; omega)).trans h.1, (World.cell?_setCell_other _ _ _ _ (fun e => by injection e with e _ _; omega)).trans h.2.1, h.2.2.setCell (by show w.heap.size ≤ w.heap.size + 1 + 1; omega) _⟩

set_option maxRecDepth 100000 in
set_option maxHeartbeats 2000000 in
theorem minusS_calls (va vb : Value) (f g h : List Nz) (ok : Bool) (hok : Hid (mnOk f g = ok)) (hv : Hid (mnV f g = h)) (w : World) (lo hi lo' hi' : Nat) (hh : hi ≤ w.heap.size) (hh' : hi' ≤ w.heap.size) (hva : NodesZ w lo hi va f) (hvb : NodesZ w lo' hi' vb g) :
    Calls Tryz.prog 7 #[.agg #[va], .agg #[vb]] w fun e w' => ∃ a c, e = .returned (.tuple #[.agg #[.slice a h.length c], .bool ok]) ∧ NodesZ w' w.heap.size w'.heap.size (.slice a h.length c) h ∧ Below w.heap.size w w' := by
  have HB0 := Lib.hid fun o o' o'' => show Below w.heap.size w (((w.alloc o).alloc o').alloc o'') from (((Below.refl _ _).alloc (Nat.le_refl _) _).alloc (by simp) _).alloc (by simp; omega) _
  obtain ⟨r, hr⟩ : ∃ r, pairB f g = r := ⟨_, rfl⟩
  have CG := Lib.hid fun (W : World) (hW : Below w.heap.size w W) => l5Pair_calls va vb f g r (Lib.hid hr) W lo hi lo' hi' (Nat.le_trans hh hW.size) (Nat.le_trans hh' hW.size) (hva.below hW hh) (hvb.below hW hh')
  have HVA := Lib.hid fun (W : World) (hW : Below w.heap.size w W) => hva.below hW hh
  have HVB := Lib.hid fun (W : World) (hW : Below w.heap.size w W) => hvb.below hW hh'
  obtain ⟨aa, ca, rfl⟩ := slice_form hva
  obtain ⟨ab, cb, rfl⟩ := slice_form hvb
  clear hva hvb
  go_enter Tryz.func7, Tryz.ntmps7
  go_wp2_with fail
  refine (CG.out _ (HB0.out _ _ _)).mono ?_
  rintro e w4 ⟨rfl, hb4⟩
  have k1 : w4.cell? ⟨w.heap.size, 0, none⟩ = some (.slice aa f.length ca) := (bcell hb4 _ _ (by simp; omega)).trans (by go_simp)
  have k2 : w4.cell? ⟨w.heap.size + 1, 0, none⟩ = some (.slice ab g.length cb) := (bcell hb4 _ _ (by first | (simp; done) | (simp; omega))).trans (by go_simp)
  have hx4 : BoxAt w4 (w.heap.size + 1 + 1) (.slice none 0 0) := BoxAt.below ⟨by go_simp, by go_simp⟩ hb4
  have HB4 := Lib.hid (Below.trans (HB0.out _ _ _) (hb4.mono (by simp; omega)))
  clear hb4 CG
  cases r with
  | false =>
    obtain ⟨d0, z0⟩ := hx4
    obtain rfl : h = [] := by rw [← hv.out, (mn_bad hr).1]
    obtain rfl : ok = false := by rw [← hok.out, (mn_bad hr).2]
    have B4 := Lib.hid (HB4.out.setCell (p := ⟨w.heap.size + 1 + 1, 0, none⟩) (by show w.heap.size ≤ w.heap.size + 1 + 1; omega) (.slice none 0 0))
    have hcr := World.cell?_setCell_same w4 ⟨w.heap.size + 1 + 1, 0, none⟩ (.slice none 0 0) d0
    go_wp2_with fail
    exact bodyPost_ret (v := .tuple #[.agg #[.slice none 0 0], .bool false]) (by simp [results, Tryz.results7, go_sem, hcr]) rfl ⟨none, 0, rfl, (OwnF.nil _ _).nodesZ.wide (Nat.le_refl _) (Nat.le_refl _), B4.out⟩
  | true =>
    obtain ⟨hp1, hp2, hp3⟩ := (pairB_iff f g).1 hr
    obtain ⟨eA, uA, sA, pA, lA, mA⟩ := good_parts hp1
    obtain ⟨eB, uB, sB, pB, lB, mB⟩ := good_parts hp2
    obtain ⟨eN, uN, sN, pN, lN, mN⟩ := good_parts (neg_good hp2)
    rw [neg_down hp2] at eN uN sN mN
    rw [neg_len hp2] at pN lN
    have nA : (f.map downN).length = f.length := by simp
    have nB : (g.map downN).length = g.length := by simp
    have nN : (formM (swapN (g.map downN))).length = g.length := by rw [← neg_down hp2, List.length_map, neg_len hp2]
    obtain ⟨N, hN⟩ : ∃ N, formM (swapN (g.map downN)) = N := ⟨_, rfl⟩
    rw [hN] at eN uN sN mN nN
    have CL := Lib.hid fun (W : World) (hW : Below w.heap.size w W) => l5Neg_calls (.slice ab g.length cb) (g.map downN) W lo' hi' (Nat.le_trans hh' hW.size) (by rw [eB]; exact HVB.out W hW) uB (by omega) (by omega) (fun nd hnd => by have := mB nd hnd; omega)
    rw [hN] at CL
    have CN := Lib.hid fun (W : World) (hW : Below w.heap.size w W) (an : Option Addr) (cn : Nat) (l h : Nat) (hl : h ≤ W.heap.size) (hz : NodesZ W l h (.slice an g.length cn) (N.map upN)) => l5Sum_calls (f.map downN) N aa an ca cn W lo hi l h (Nat.le_trans hh hW.size) hl (by rw [nA, eA]; exact HVA.out W hW) (by rw [nN]; exact hz) (by omega) (by omega) (by omega) (by omega) uA uN mA mN
    obtain ⟨G, hG⟩ : ∃ G, (formM (sumN (f.map downN) N)).map upN = G := ⟨_, rfl⟩
    have HOK : Hid (fitsB G = ok) := Lib.hid (by rw [← hG, ← fitsN_B, ← hN, ← (mn_yes hr).2]; exact hok.out)
    have HH : Hid (h = if ok then G else []) := Lib.hid (by
      rw [← hv.out, (mn_yes hr).1]
      have := (mn_yes hr).2
      rw [hok.out] at this
      cases ok with
      | true => rw [outV_yes this.symm, hN, hG]; rfl
      | false => rw [outV_no this.symm]; rfl)
    rw [nA, nN, hG] at CN
    have CF := Lib.hid fun (W : World) (v : Value) (lo hi : Nat) (hhi : hi ≤ W.heap.size) (hz : NodesZ W lo hi v G) => show Calls Tryz.prog 23 #[.agg #[v]] W fun e w' => ∃ au cu, e = .returned (.tuple #[.agg #[.slice au h.length cu], .bool ok]) ∧ NodesZ w' lo hi (.slice au h.length cu) h ∧ Below W.heap.size W w' from by
      refine (l3If_calls v G ok HOK W lo hi hhi hz).mono ?_
      rintro e w' ⟨rfl, hb⟩
      have hz' : NodesZ w' lo hi (if ok then v else .slice none 0 0) h := by
        rw [HH.out]
        cases ok with
        | false => exact ⟨none, 0, rfl, ⟨by simp, by omega⟩, fun j nd hj => by simp at hj⟩
        | true => exact hz.below hb hhi
      obtain ⟨au, cu, hu⟩ := slice_form hz'
      exact ⟨au, cu, by rw [hu], by rw [← hu]; exact hz', hb⟩
    have HNN := Lib.hid nN
    clear eA uA sA eB uB sB mA mB eN uN sN mN hok hv hr hp1 hp2 hp3 nA nB nN hG hN pA pB pN lA lB lN
    have hd : Below w4.heap.size w4 w4.drew := below_drewN (Below.refl _ _) 1
    have hxd := BoxAt.below hx4 hd
    have hS0 := mn_next ⟨k1, k2, HB4.out⟩ hd
    have HS4 := Lib.hid HB4.out.size
    clear hd hx4
    go_upto_region 3 with fail
    go_region_held3 (fun w' : World => w'.cell? ⟨w.heap.size, 0, none⟩ = some (.slice aa f.length ca) ∧ w'.cell? ⟨w.heap.size + 1, 0, none⟩ = some (.slice ab g.length cb) ∧ Below w.heap.size w w') (first | exact hS0 | (go_split_ands; exact ⟨‹_›, ‹_›, ‹_›⟩) | (go_split_ands; exact mn_next ⟨‹_›, ‹_›, ‹_›⟩ hbc) | (go_split_ands; exact mn_next ⟨‹_›, ‹_›, ‹_›⟩ hbb) | (go_split_ands; exact mn_next ⟨‹_›, ‹_›, ‹_›⟩ hba) | (go_split_ands; exact mn_set ⟨‹_›, ‹_›, ‹_›⟩)) (first
      | (go_at_call 25; go_split_ands; (with_reducible refine (CL.out _ (by assumption)).mono ?_); rintro e wa ⟨va, rfl, hza, hba⟩; obtain ⟨an, cn, hvn⟩ := slice_form hza; (rw [List.length_map, HNN.out] at hvn); subst hvn)
      | (go_at_call 24; go_split_ands; (with_reducible refine (CN.out _ (by assumption) an cn _ _ (Nat.le_refl _) hza).mono ?_); rintro e wb ⟨vs, rfl, hzs, hbb⟩)
      | (go_at_call 23; go_split_ands; (with_reducible refine (CF.out _ vs _ _ (Nat.le_refl _) hzs).mono ?_); rintro e wc ⟨au, cu, rfl, hzc, hbc⟩; obtain ⟨d6, z6⟩ := BoxAt.below hxd (hba.trans ((hbb.mono hba.size).trans (hbc.mono (Nat.le_trans hba.size hbb.size))))))
    all_goals
      rename_i hH
      have HB6 := Lib.hid hH.2.2
      have hcr := World.cell?_setCell_same wc ⟨w.heap.size + 1 + 1, 0, none⟩ (.slice au h.length cu) d6
      have hsq : w.heap.size + 1 + 1 < wa.heap.size := Nat.lt_of_lt_of_le (block_of_cell hxd.1) hba.size
      have HO : Hid (NodesZ (wc.setCell ⟨w.heap.size + 1 + 1, 0, none⟩ (.slice au h.length cu)) w.heap.size (wc.setCell ⟨w.heap.size + 1 + 1, 0, none⟩ (.slice au h.length cu)).heap.size (.slice au h.length cu) h) := Lib.hid ((hzc.keep (fun b o h1 h2 => World.cell?_setCell_other _ _ _ _ (fun e => by injection e with e _ _; omega))).wide (by omega) (by simp; exact hbc.size))
      clear hH hzc hbc hzs hbb hza hba d6 z6 hxd
      go_wp2_with fail
      exact bodyPost_ret (v := .tuple #[.agg #[.slice au h.length cu], .bool ok]) (by simp [results, Tryz.results7, go_sem, hcr]) rfl ⟨au, cu, rfl, HO.out, HB6.out⟩

end Go.Proofs.YtjllpcnbahdmhaaGreat
