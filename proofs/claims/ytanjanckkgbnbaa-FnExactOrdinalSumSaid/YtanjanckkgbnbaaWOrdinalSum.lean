/- The walk of laws.FnExactOrdinalSum. -/
import Derived.Test.YtanjanckkgbnbaaFmLaw
import Derived.Test.YtanjanckkgbnbaaFmToOwn
import Derived.Test.YtanjanckkgbnbaaFmHeld
import Derived.Test.YtanjanckkgbnbaaOsAll

namespace Go.Proofs.Ytanjanckkgbnbaa
open Go.RowKit
set_option linter.unusedVariables false
set_option linter.unusedSimpArgs false

theorem OrdinalSumI_copy (v v' : Value) (f g h : List Nz) (r : Bool) (hr : Hid (ordV f g = h ∧ ordOk f g = r)) (w : World) (hv : CopyOf w v f) (hv' : CopyOf w v' g) :
    Calls Try.prog 10 #[.agg #[v], .agg #[v']] w fun e w' => ∃ a c vs, e = .returned (.tuple #[.agg #[.slice a h.length c], .bool r]) ∧ OwnF w' w.heap.size (.slice a h.length c) vs h ∧ Below w.heap.size w w' := by
  obtain ⟨lo, hi, hh, h1⟩ := hv
  obtain ⟨lo', hi', hh', h2⟩ := hv'
  exact ordI_calls v v' f g h r (Lib.hid hr.out.2) (Lib.hid hr.out.1) w lo hi lo' hi' hh hh' h1 h2
theorem OrdinalSumIz_copy (v v' : Value) (f g h : List Nz) (r : Bool) (hr : Hid (ordV f g = h ∧ ordOk f g = r)) (w : World) (hv : CopyOf w v f) (hv' : CopyOf w v' g) :
    Calls Try.prog 10 #[.agg #[v], .agg #[v']] w fun e w' => ∃ a c, e = .returned (.tuple #[.agg #[.slice a h.length c], .bool r]) ∧ NodesZ w' w.heap.size w'.heap.size (.slice a h.length c) h ∧ Below w.heap.size w w' := by
  refine (OrdinalSumI_copy v v' f g h r hr w hv hv').mono ?_
  rintro e w' ⟨a, c, vs, rfl, ho, hb⟩
  exact ⟨a, c, rfl, ho.nodesZ, hb⟩
theorem OrdinalSumM_copy (v v' : Value) (f g h : List Nz) (r : Bool) (hr : Hid (ordV f g = h ∧ ordOk f g = r)) (w : World) (hv : CopyOf w v f) (hv' : CopyOf w v' g) :
    Calls Try.prog 8 #[.agg #[v], .agg #[v']] w fun e w' => ∃ a c, e = .returned (.tuple #[.agg #[.slice a h.length c], .bool r]) ∧ NodesZ w' w.heap.size w'.heap.size (.slice a h.length c) h ∧ Below w.heap.size w w' := by
  obtain ⟨lo, hi, hh, h1⟩ := hv
  obtain ⟨lo', hi', hh', h2⟩ := hv'
  exact ordS_calls v v' f g h r (Lib.hid hr.out.2) (Lib.hid hr.out.1) w lo hi lo' hi' hh hh' h1 h2

theorem set_same {wc W : World} {q : Nat} {x v : Value} (hr : ∀ b o, b < W.heap.size → wc.cell? ⟨b, o, none⟩ = W.cell? ⟨b, o, none⟩) (hq : q < W.heap.size) (hc : W.cell? ⟨q, 0, none⟩ = some v) : (wc.setCell ⟨q, 0, none⟩ x).cell? ⟨q, 0, none⟩ = some x := World.cell?_setCell_same _ _ x ((hr q 0 hq).trans hc)

theorem below_swap {B : Nat} {w W : World} {o o' : Obj} (h : Below B w (W.alloc o)) (hlt : B ≤ W.heap.size) : Below B w (W.alloc o') := by
  refine ⟨h.os, h.tape, h.output, ?_, fun i hi => ?_⟩
  · have := h.size
    simpa using this
  · rw [← h.block i hi]
    have e1 : (W.alloc o').heap = W.heap.push o' := rfl
    have e2 : (W.alloc o).heap = W.heap.push o := rfl
    rw [e1, e2, Array.getElem?_push, Array.getElem?_push, if_neg (by omega), if_neg (by omega)]
theorem cell_swap {W : World} {o o' : Obj} {b k : Nat} {v : Value} (h : (W.alloc o).cell? ⟨b, k, none⟩ = some v) (hlt : b < W.heap.size) : (W.alloc o').cell? ⟨b, k, none⟩ = some v := by
  rw [World.cell?_alloc_lt _ _ _ hlt] at h ⊢
  exact h

theorem twoL_swap {W Wa : World} {b1 b2 : Nat} {v1 v2 : Value} {o o' : Obj} (l1 : b1 < W.heap.size) (l2 : b2 < W.heap.size) (hs : W.heap.size ≤ Wa.heap.size) (h : TwoL W b1 b2 v1 v2 (Wa.alloc o)) : TwoL W b1 b2 v1 v2 (Wa.alloc o') :=
  ⟨cell_swap h.1 (by omega), cell_swap h.2.1 (by omega), below_swap h.2.2 hs⟩

theorem twoL_far {W Wa : World} {b1 b2 q : Nat} {v1 v2 x : Value} (l1 : b1 < W.heap.size) (l2 : b2 < W.heap.size) (hq : W.heap.size ≤ q) (h : TwoL W b1 b2 v1 v2 Wa) : TwoL W b1 b2 v1 v2 (Wa.setCell ⟨q, 0, none⟩ x) := by
  obtain ⟨h1, h2, h3⟩ := h
  exact ⟨(World.cell?_setCell_other _ _ _ _ (fun e => by injection e with e _ _; omega)).trans h1, (World.cell?_setCell_other _ _ _ _ (fun e => by injection e with e _ _; omega)).trans h2, h3.setCell (by show W.heap.size ≤ q; exact hq) _⟩

theorem nodes_alloc {wc : World} {lo base : Nat} {v : Value} {f : List Nz} {o : Obj} (h : NodesZ wc lo wc.heap.size v f) (hb : base ≤ lo) : NodesZ (wc.alloc o) base (wc.alloc o).heap.size v f :=
  (h.below ((Below.refl _ _).alloc (Nat.le_refl _) _) (Nat.le_refl _)).wide hb (by simp)

theorem nodes_set {wc : World} {lo base q : Nat} {v x : Value} {f : List Nz} (h : NodesZ wc lo wc.heap.size v f) (hb : base ≤ lo) (hq : q < lo) : NodesZ (wc.setCell ⟨q, 0, none⟩ x) base (wc.setCell ⟨q, 0, none⟩ x).heap.size v f :=
  (h.keep (fun b o h1 h2 => World.cell?_setCell_other _ _ _ _ (fun e => by injection e with e _ _; omega))).wide hb (by simp)

theorem toForm_ownC (v : Value) (f : List Nz) (w : World) (hv : CopyOf w v f) (hl : szNs f ≤ 1048576) :
    Calls Try.prog 9 #[.agg #[v]] w fun e w' => ∃ g vs, e = .returned (.agg #[.slice (some ⟨g, 0, none⟩) f.length f.length]) ∧ OwnF w' w.heap.size (.slice (some ⟨g, 0, none⟩) f.length f.length) vs f ∧ Below w.heap.size w w' := by
  obtain ⟨lo, hi, hh, h⟩ := hv
  exact toForm_own v f w lo hi hh h hl

theorem OwnF.copy {w : World} {base : Nat} {v : Value} {vs : List (Value × Value)} {f : List Nz} (h : OwnF w base v vs f) : CopyOf w v f := ⟨_, _, Nat.le_refl _, h.nodesZ⟩

theorem markF_sz (f : List Nz) (k : Int) : (markF f k).2 ≤ k + (szNs f : Int) := by
  rw [markF_end]
  unfold szNs
  omega

/-- a form read far from what is written -/
theorem NodesZ.only {w w' : World} {lo hi : Nat} {v : Value} {f : List Nz} {F : Nat → Prop} (h : NodesZ w lo hi v f) (hh : hi ≤ w.heap.size) (ho : Only w w' F) (hn : ∀ b, lo ≤ b → b < hi → ¬ F b) : NodesZ w' lo hi v f := h.keep (fun b o h1 h2 => ho.cell (by omega) (hn b h1 h2))

set_option maxRecDepth 100000 in
set_option maxHeartbeats 8000000 in
theorem fnExactOrdinalSum_walk (u u' : Value) (f g : List Nz) (w : World) (hu : CopyOf w u f) (hu' : CopyOf w u' g) :
    Calls Try.prog 3 #[.agg #[u], .agg #[u']] w fun e w' => e = .returned (.bool true) ∧ Below w.heap.size w w' := by
  have HU := Lib.hid fun W (hW : Below w.heap.size w W) => hu.below hW
  have HU' := Lib.hid fun W (hW : Below w.heap.size w W) => hu'.below hW
  have CZ := Lib.hid fun W (hW : Below w.heap.size w W) => szForm_copy u f W 1048576 (by omega) (by omega) (hu.below hW)
  have CZ' := Lib.hid fun W (hW : Below w.heap.size w W) (m : Int) (h0 : 0 ≤ m) (h1 : m ≤ 1048576) => szForm_copy u' g W m h0 h1 (hu'.below hW)
  clear hu hu'
  have m1b : leftOf 1048576 (szNs f) ≤ 1048576 := by unfold leftOf; split <;> omega
  have HS : Hid (0 ≤ leftOf 1048576 (szNs f) → szNs f ≤ 1048576) := Lib.hid (fun h => by have := leftOf_neg 1048576 (szNs f) (by omega); omega)
  have HS' : Hid (∀ m : Int, 0 ≤ m → m ≤ 1048576 → 0 ≤ leftOf m (szNs g) → szNs g ≤ 1048576) := Lib.hid (fun m h0 h1 h => by have := leftOf_neg m (szNs g) h0; omega)
  generalize leftOf 1048576 (szNs f) = m1 at CZ m1b HS
  have HB0 : Hid (Below w.heap.size w ((w.alloc (.cells #[u] 24)).alloc (.cells #[u'] 24))) := Lib.hid (((Below.refl _ _).alloc (Nat.le_refl _) _).alloc (by simp) _)
  go_enter Try.func3, Try.ntmps3
  go_wp2_with fail
  refine (CZ.out _ HB0.out).mono ?_
  rintro e w1 ⟨rfl, hb⟩
  have k1 : w1.cell? ⟨w.heap.size, 0, none⟩ = some u := (bcell hb _ _ (by simp; omega)).trans (by go_simp)
  have k2 : w1.cell? ⟨w.heap.size + 1, 0, none⟩ = some u' := (bcell hb _ _ (by simp)).trans (by go_simp)
  have HB1 : Hid (Below w.heap.size w w1) := Lib.hid (HB0.out.trans (hb.mono (by simp; omega)))
  clear hb
  by_cases hn : m1 < 0
  · go_wp2_with fail
    go_ret
    exact ⟨rfl, HB1.out⟩
  have hm0 : 0 ≤ m1 := by omega
  have hf : Hid (szNs f ≤ 1048576) := Lib.hid (HS.out hm0)
  have CT := Lib.hid fun W (hW : Below w.heap.size w W) => toForm_copy u f W (HU.out W hW) hf.out
  have CTO := Lib.hid fun W (hW : Below w.heap.size w W) => toForm_ownC u f W (HU.out W hW) hf.out
  have CZ2 := Lib.hid fun W hW => CZ'.out W hW m1 hm0 m1b
  have HS2 := Lib.hid (HS'.out m1 hm0 m1b)
  clear HS HS' CZ CZ'
  generalize leftOf m1 (szNs g) = m2 at CZ2 HS2
  go_wp2_with fail
  refine (CZ2.out _ HB1.out).mono ?_
  rintro e w2 ⟨rfl, hb⟩
  have b1 := block_of_cell k1
  have b2 := block_of_cell k2
  have k1 := (bcell hb _ _ b1).trans k1
  have k2 := (bcell hb _ _ b2).trans k2
  have HB2 : Hid (Below w.heap.size w w2) := Lib.hid (HB1.out.trans (hb.mono HB1.out.size))
  clear hb b1 b2
  by_cases hn2 : m2 < 0
  · go_wp2_with fail
    go_ret
    exact ⟨rfl, HB2.out⟩
  have hm2 : 0 ≤ m2 := by omega
  have hg : Hid (szNs g ≤ 1048576) := Lib.hid (HS2.out hm2)
  have CT' := Lib.hid fun W (hW : Below w.heap.size w W) => toForm_copy u' g W (HU'.out W hW) hg.out
  have CTO' := Lib.hid fun W (hW : Below w.heap.size w W) => toForm_ownC u' g W (HU'.out W hW) hg.out
  clear HS2 CZ2
  obtain ⟨r, hr⟩ : ∃ r, ordOk f g = r := ⟨_, rfl⟩
  obtain ⟨h, hms⟩ : ∃ n : List Nz, ordV f g = n := ⟨_, rfl⟩
  have hgz : (h.map szN).sum ≤ 5760 := by rw [← hms]; exact ordV_sz f g
  have HGZ := Lib.hid hgz
  have HR := Lib.hid (And.intro hms hr)
  clear hr hms hgz
  have q2 : (r != r) = false := by simp
  have b1 := block_of_cell k1
  have b2 := block_of_cell k2
  have hS0 := twoL_start k1 k2
  have HBW := Lib.hid fun W (hW : Below w2.heap.size w2 W) => HB2.out.trans (hW.mono HB2.out.size)
  go_upto_region 8 with fail
  go_cut [6, 7] (fun s6 s7 wx => ∃ (q : Nat) (av : Option Addr) (cv : Nat), s6 = .pointer (some ⟨q, 0, none⟩) ∧ s7 = .bool r ∧ (w2.heap.size ≤ q ∧ q < wx.heap.size) ∧ wx.cell? ⟨q, 0, none⟩ = some (.slice av h.length cv) ∧ NodesZ wx w2.heap.size wx.heap.size (.slice av h.length cv) h ∧ TwoL w2 w.heap.size (w.heap.size + 1) u u' wx)
  case first =>
    go_region_held3 (fun w' : World => w'.cell? ⟨w.heap.size, 0, none⟩ = some u ∧ w'.cell? ⟨w.heap.size + 1, 0, none⟩ = some u' ∧ Below w2.heap.size w2 w') (first | exact hS0 | (go_split_ands; exact ⟨‹_›, ‹_›, ‹_›⟩) | (go_split_ands; exact twoL_next b1 b2 hbc ⟨‹_›, ‹_›, ‹_›⟩) | (go_split_ands; exact twoL_next b1 b2 hbb ⟨‹_›, ‹_›, ‹_›⟩) | (go_split_ands; exact twoL_next b1 b2 hba ⟨‹_›, ‹_›, ‹_›⟩) | (go_split_ands; exact twoL_next b1 b2 ((Below.refl _ _).alloc (Nat.le_refl _) _) ⟨‹_›, ‹_›, ‹_›⟩) | (go_split_ands; refine twoL_far b1 b2 ?_ ⟨‹_›, ‹_›, ‹_›⟩; (omega)) | (go_split_ands; refine twoL_swap b1 b2 ?_ ⟨‹_›, ‹_›, ‹_›⟩; (omega))) (first | (go_at_call 8; go_split_ands; refine (OrdinalSumM_copy _ _ f g h r HR _ (by first | assumption | exact CopyOf.below (by assumption) hbb | exact CopyOf.below (CopyOf.below (by assumption) ((Below.refl _ _).alloc (Nat.le_refl _) _)) hbb | exact CopyOf.below (CopyOf.below (by assumption) hbb) ((Below.refl _ _).alloc (Nat.le_refl _) _)) (by first | assumption | exact CopyOf.below (by assumption) ((Below.refl _ _).alloc (Nat.le_refl _) _))).mono ?_; rintro e wc ⟨av, cv, rfl, hzn, hbc⟩; have hr := bcell hbc; have hrf := (fun q (hq) => Below.frozen hbc (p := ⟨q, 0, none⟩) hq); have hz := hbc.size; (try simp at hz); (try (have hbbc := Below.trans hbb (Below.mono hbc hbb.size); have hr := bcell hbbc; have hrf := (fun q (hq) => Below.frozen hbbc (p := ⟨q, 0, none⟩) hq))); (try (have habc := Below.trans hab (Below.mono hbc hab.size); have hr := bcell habc; have hrf := (fun q (hq) => Below.frozen habc (p := ⟨q, 0, none⟩) hq)))) | (go_at_call 9; go_split_ands; (with_reducible refine (CT.out _ (HBW.out _ (by assumption))).mono ?_); rintro e wa ⟨a1, n1, c1, rfl, hx1, hba⟩; have hr := bcell hba; have hrf := (fun q (hq) => Below.frozen hba (p := ⟨q, 0, none⟩) hq); have hz := hba.size; (try simp at hz)) | (go_at_call 9; go_split_ands; (with_reducible refine (CT'.out _ (HBW.out _ (by assumption))).mono ?_); rintro e wb ⟨a2, n2, c2, rfl, hx2, hbb⟩; have hr := bcell hbb; have hrf := (fun q (hq) => Below.frozen hbb (p := ⟨q, 0, none⟩) hq); have hz := hbb.size; (try simp at hz); (try (have hab := Below.trans hba (Below.mono hbb hba.size); have hr := bcell hab; have hrf := (fun q (hq) => Below.frozen hab (p := ⟨q, 0, none⟩) hq)))))
    all_goals
      rename_i hH
      go_wp2_with fail
      go_meet
      first
        | exact ⟨_, av, cv, rfl, rfl, ⟨by omega, by simp⟩, by go_simp, nodes_alloc hzn (by omega), hH⟩
        | exact ⟨_, av, cv, rfl, rfl, ⟨by omega, by first | (simp; done) | (simp; omega)⟩, set_same (v := .slice none 0 0) hr (by first | (simp; done) | (simp; omega) | omega) (by go_simp), nodes_set hzn (by first | omega | (simp; done) | (simp; omega)) (by first | omega | (simp; done) | (simp; omega)), hH⟩
  case rest =>
    obtain ⟨w3, rfl⟩ : ∃ W : World, W = wc := ⟨_, rfl⟩
    obtain ⟨q, av, cv, rfl, rfl, ⟨hq1, hq2⟩, kq, hv0, k1, k2, hbw⟩ := hcut
    have HB3 := Lib.hid (HBW.out _ hbw)
    have HV3 := Lib.hid hv0
    have hz23 := hbw.size
    have hz2 := HB2.out.size
    clear hbw hS0 HBW hv0
    have l1 := block_of_cell k1
    have l2 := block_of_cell k2
    have lq := block_of_cell kq
    go_wp2_with fail
    refine (CTO.out _ HB3.out).mono ?_
    rintro e w4 ⟨gx, vsx, rfl, hx, hb⟩
    have HX := Lib.hid hx
    have k1 := (bcell hb _ _ l1).trans k1
    have k2 := (bcell hb _ _ l2).trans k2
    have kq := (bcell hb _ _ lq).trans kq
    have HB4 : Hid (Below w.heap.size w w4) := Lib.hid (HB3.out.trans (hb.mono HB3.out.size))
    have HV4 := Lib.hid (HV3.out.below hb (Nat.le_refl _))
    have hz34 := hb.size
    have HBX : Hid (∀ b, BlkF vsx b → w3.heap.size ≤ b ∧ b < w4.heap.size) := Lib.hid (fun b hb => HX.out.blk hb)
    have l1 := block_of_cell k1
    have l2 := block_of_cell k2
    have lq := block_of_cell kq
    clear hb hx HV3
    go_wp2_with fail
    have HA : Hid (Below w4.heap.size w4 (w4.alloc (.cells #[.slice (some ⟨gx, 0, none⟩) f.length f.length] 28))) := Lib.hid ((Below.refl _ _).alloc (Nat.le_refl _) _)
    refine (CTO'.out _ (HB4.out.trans (HA.out.mono HB4.out.size))).mono ?_
    rintro e w5 ⟨gy, vsy, rfl, hy, hb⟩
    have HY := Lib.hid (hy.mono (base' := w4.heap.size + 1) (by simp))
    have k1 : w5.cell? ⟨w.heap.size, 0, none⟩ = some (u) := (bcell hb _ _ (by simp; omega)).trans ((bcell HA.out _ _ l1).trans k1)
    have k2 : w5.cell? ⟨w.heap.size + 1, 0, none⟩ = some (u') := (bcell hb _ _ (by simp; omega)).trans ((bcell HA.out _ _ l2).trans k2)
    have kq : w5.cell? ⟨q, 0, none⟩ = some (.slice av h.length cv) := (bcell hb _ _ (by simp; omega)).trans ((bcell HA.out _ _ lq).trans kq)
    have kx : w5.cell? ⟨w4.heap.size, 0, none⟩ = some (.slice (some ⟨gx, 0, none⟩) f.length f.length) := (bcell hb _ _ (by simp)).trans (by go_simp)
    have HBs : Hid (Below w4.heap.size w4 w5) := Lib.hid (HA.out.trans (hb.mono (by simp)))
    have HX5 := Lib.hid (HX.out.below HBs.out)
    have HV5 := Lib.hid (HV4.out.below HBs.out (by omega))
    have HB5 : Hid (Below w.heap.size w w5) := Lib.hid (HB4.out.trans (HBs.out.mono HB4.out.size))
    have hz45 := HBs.out.size
    have HBY : Hid (∀ b, BlkF vsy b → w4.heap.size + 1 ≤ b ∧ b < w5.heap.size) := Lib.hid (fun b hb => HY.out.blk hb)
    have l1 := block_of_cell k1
    have l2 := block_of_cell k2
    have lq := block_of_cell kq
    have lx := block_of_cell kx
    clear hb hy HA HBs HX HV4
    go_wp2_with fail
    have HA : Hid (Below w5.heap.size w5 (w5.alloc (.cells #[.slice (some ⟨gy, 0, none⟩) g.length g.length] 28))) := Lib.hid ((Below.refl _ _).alloc (Nat.le_refl _) _)
    refine (OrdinalSumI_copy _ _ f g h r HR _ (HX5.out.copy.below HA.out) (HY.out.copy.below HA.out)).mono ?_
    rintro e w6 ⟨ag, cg, vsg, rfl, hvg, hb⟩
    have k1 : w6.cell? ⟨w.heap.size, 0, none⟩ = some (u) := (bcell hb _ _ (by simp; omega)).trans ((bcell HA.out _ _ l1).trans k1)
    have k2 : w6.cell? ⟨w.heap.size + 1, 0, none⟩ = some (u') := (bcell hb _ _ (by simp; omega)).trans ((bcell HA.out _ _ l2).trans k2)
    have kq : w6.cell? ⟨q, 0, none⟩ = some (.slice av h.length cv) := (bcell hb _ _ (by simp; omega)).trans ((bcell HA.out _ _ lq).trans kq)
    have kx : w6.cell? ⟨w4.heap.size, 0, none⟩ = some (.slice (some ⟨gx, 0, none⟩) f.length f.length) := (bcell hb _ _ (by simp; omega)).trans ((bcell HA.out _ _ lx).trans kx)
    have ky : w6.cell? ⟨w5.heap.size, 0, none⟩ = some (.slice (some ⟨gy, 0, none⟩) g.length g.length) := (bcell hb _ _ (by simp)).trans (by go_simp)
    have HBs : Hid (Below w5.heap.size w5 w6) := Lib.hid (HA.out.trans (hb.mono (by simp)))
    have HX6 := Lib.hid (HX5.out.below HBs.out)
    have HY6 := Lib.hid (HY.out.below HBs.out)
    have HV6 := Lib.hid (HV5.out.below HBs.out (by omega))
    have HG6 : Hid (OwnF w6 (w5.heap.size + 1) (.slice ag h.length cg) vsg h) := Lib.hid (hvg.mono (by simp))
    have HB6 : Hid (Below w.heap.size w w6) := Lib.hid (HB5.out.trans (HBs.out.mono HB5.out.size))
    have hz56 := HBs.out.size
    have HBG : Hid (∀ b, BlkF vsg b → w5.heap.size + 1 ≤ b ∧ b < w6.heap.size) := Lib.hid (fun b hb => HG6.out.blk hb)
    have l1 := block_of_cell k1
    have l2 := block_of_cell k2
    have lq := block_of_cell kq
    have lx := block_of_cell kx
    have ly := block_of_cell ky
    clear hb hvg HA HBs HX5 HY HV5
    have hba : Below w6.heap.size w6 (w6.alloc (.cells #[.slice ag h.length cg] 28)) := (Below.refl _ _).alloc (Nat.le_refl _) _
    have j1 := (bcell hba _ _ l1).trans k1
    have j2 := (bcell hba _ _ l2).trans k2
    have jq := (bcell hba _ _ lq).trans kq
    have jx := (bcell hba _ _ lx).trans kx
    have jy := (bcell hba _ _ ly).trans ky
    have jg : (w6.alloc (.cells #[.slice ag h.length cg] 28)).cell? ⟨w6.heap.size, 0, none⟩ = some (.slice ag h.length cg) := by go_simp
    have HXa := Lib.hid (HX6.out.below hba)
    have HYa := Lib.hid (HY6.out.below hba)
    have HGa := Lib.hid (HG6.out.below hba)
    have HVa := Lib.hid (HV6.out.below hba (by omega))
    have HBa : Hid (Below w.heap.size w (w6.alloc (.cells #[.slice ag h.length cg] 28))) := Lib.hid (HB6.out.trans (hba.mono HB6.out.size))
    have hza : (w6.alloc (.cells #[.slice ag h.length cg] 28)).heap.size = w6.heap.size + 1 := by simp
    have CE := Lib.hid (eqForm_copy _ _ h _ HGa.out.copy ⟨_, _, by omega, HVa.out⟩)
    clear HX6 HY6 HG6 HV6 HB6 hba k1 k2 kq kx ky
    go_wp2_with fail
    refine CE.out.mono ?_
    rintro e w7 ⟨rfl, hb⟩
    have k1 := (bcell hb _ _ (block_of_cell j1)).trans j1
    have k2 := (bcell hb _ _ (block_of_cell j2)).trans j2
    have kq := (bcell hb _ _ (block_of_cell jq)).trans jq
    have kx := (bcell hb _ _ (block_of_cell jx)).trans jx
    have ky := (bcell hb _ _ (block_of_cell jy)).trans jy
    have kg := (bcell hb _ _ (block_of_cell jg)).trans jg
    have HB7 : Hid (Below w.heap.size w w7) := Lib.hid (HBa.out.trans (hb.mono HBa.out.size))
    have HX7 := Lib.hid (HXa.out.below hb)
    have HY7 := Lib.hid (HYa.out.below hb)
    have HG7 := Lib.hid (HGa.out.below hb)
    have HV7 := Lib.hid (HVa.out.below hb (by omega))
    have hz67 := hb.size
    rw [hza] at hz67
    clear hb HXa HYa HGa HVa HBa CE j1 j2 jq jx jy jg hza
    have l1 := block_of_cell k1
    have l2 := block_of_cell k2
    have lq := block_of_cell kq
    have lx := block_of_cell kx
    have ly := block_of_cell ky
    have lg := block_of_cell kg
    have HXW := Lib.hid fun W (hW : Below w7.heap.size w7 W) => HX7.out.copy.below hW
    have HBWx := Lib.hid fun W (hW : Below w7.heap.size w7 W) => HB7.out.trans (hW.mono HB7.out.size)
    have hS0 := twoL_start k1 kx
    go_upto_region 14 with fail
    go_cut [58] (fun s0 wx => s0 = .bool false ∧ TwoL w7 (w.heap.size) (w4.heap.size) (u) (.slice (some ⟨gx, 0, none⟩) f.length f.length) wx)
    case first =>
      go_region_held3 (fun w' : World => w'.cell? ⟨w.heap.size, 0, none⟩ = some (u) ∧ w'.cell? ⟨w4.heap.size, 0, none⟩ = some (.slice (some ⟨gx, 0, none⟩) f.length f.length) ∧ Below w7.heap.size w7 w') (first | exact hS0 | (go_split_ands; exact ⟨‹_›, ‹_›, ‹_›⟩) | (go_split_ands; exact twoL_next l1 lx hbc ⟨‹_›, ‹_›, ‹_›⟩) | (go_split_ands; exact twoL_next l1 lx hba ⟨‹_›, ‹_›, ‹_›⟩)) (first | (go_at_call 11; go_split_ands; refine (eqForm_copy _ _ _ _ (CopyOf.below (HXW.out _ (by assumption)) hba) (by assumption)).mono ?_; rintro e wc ⟨rfl, hbc⟩) | (go_at_call 9; go_split_ands; (with_reducible refine (CT.out _ (HBWx.out _ (by assumption))).mono ?_); rintro e wa ⟨a3, n3, c3, rfl, hx1, hba⟩))
      all_goals
        rename_i hH
        go_wp2_with fail
        go_meet
        exact ⟨rfl, hH⟩
    case rest =>
      obtain ⟨w8, rfl⟩ : ∃ W : World, W = wc := ⟨_, rfl⟩
      obtain ⟨rfl, hT⟩ := hcut
      obtain ⟨k1, kx, hbw⟩ := hT
      have k2 := (bcell hbw _ _ l2).trans k2
      have kq := (bcell hbw _ _ lq).trans kq
      have ky := (bcell hbw _ _ ly).trans ky
      have kg := (bcell hbw _ _ lg).trans kg
      have HB8 := Lib.hid (HBWx.out _ hbw)
      have HX8 := Lib.hid (HX7.out.below hbw)
      have HY8 := Lib.hid (HY7.out.below hbw)
      have HG8 := Lib.hid (HG7.out.below hbw)
      have HV8 := Lib.hid (HV7.out.below hbw (by omega))
      have hz8 := hbw.size
      clear hbw hS0 HBWx HXW HX7 HY7 HG7 HV7
      have l1 := block_of_cell k1
      have l2 := block_of_cell k2
      have lq := block_of_cell kq
      have lx := block_of_cell kx
      have ly := block_of_cell ky
      have lg := block_of_cell kg
      have HXW := Lib.hid fun W (hW : Below w8.heap.size w8 W) => HY8.out.copy.below hW
      have HBWx := Lib.hid fun W (hW : Below w8.heap.size w8 W) => HB8.out.trans (hW.mono HB8.out.size)
      have hS0 := twoL_start k2 ky
      go_upto_region 16 with fail
      go_cut [63] (fun s0 wx => s0 = .bool false ∧ TwoL w8 (w.heap.size + 1) (w5.heap.size) (u') (.slice (some ⟨gy, 0, none⟩) g.length g.length) wx)
      case first =>
        go_region_held3 (fun w' : World => w'.cell? ⟨w.heap.size + 1, 0, none⟩ = some (u') ∧ w'.cell? ⟨w5.heap.size, 0, none⟩ = some (.slice (some ⟨gy, 0, none⟩) g.length g.length) ∧ Below w8.heap.size w8 w') (first | exact hS0 | (go_split_ands; exact ⟨‹_›, ‹_›, ‹_›⟩) | (go_split_ands; exact twoL_next l2 ly hbc ⟨‹_›, ‹_›, ‹_›⟩) | (go_split_ands; exact twoL_next l2 ly hba ⟨‹_›, ‹_›, ‹_›⟩)) (first | (go_at_call 11; go_split_ands; refine (eqForm_copy _ _ _ _ (CopyOf.below (HXW.out _ (by assumption)) hba) (by assumption)).mono ?_; rintro e wc ⟨rfl, hbc⟩) | (go_at_call 9; go_split_ands; (with_reducible refine (CT'.out _ (HBWx.out _ (by assumption))).mono ?_); rintro e wa ⟨a3, n3, c3, rfl, hx1, hba⟩))
        all_goals
          rename_i hH
          go_wp2_with fail
          go_meet
          exact ⟨rfl, hH⟩
      case rest =>
        obtain ⟨w9, rfl⟩ : ∃ W : World, W = wc := ⟨_, rfl⟩
        obtain ⟨rfl, hT⟩ := hcut
        obtain ⟨k2, ky, hbw⟩ := hT
        have k1 := (bcell hbw _ _ l1).trans k1
        have kq := (bcell hbw _ _ lq).trans kq
        have kx := (bcell hbw _ _ lx).trans kx
        have kg := (bcell hbw _ _ lg).trans kg
        have HB9 := Lib.hid (HBWx.out _ hbw)
        have HX9 := Lib.hid (HX8.out.below hbw)
        have HY9 := Lib.hid (HY8.out.below hbw)
        have HG9 := Lib.hid (HG8.out.below hbw)
        have HV9 := Lib.hid (HV8.out.below hbw (by omega))
        have hz9 := hbw.size
        clear hbw hS0 HBWx HXW HX8 HY8 HG8 HV8
        have l1 := block_of_cell k1
        have l2 := block_of_cell k2
        have lq := block_of_cell kq
        have lx := block_of_cell kx
        have ly := block_of_cell ky
        have lg := block_of_cell kg
        have mk2 := hf.out
        have mk3 := hg.out
        have mk1 := markF_sz f 1
        have mk4 := markF_le f 1 0
        have mk5 : (markF f 1).2 ≤ 1000000000 := by omega
        have mk6 : (1 : Int) ≤ (markF f 1).2 := by omega
        have CM := Lib.hid (markForm_calls _ vsx f 1 _ w3.heap.size HX9.out (by omega) mk5)
        have mk7 : (markF f 1).2 ≤ 1 + 1048576 := by omega
        clear mk1 mk4
        generalize (markF f 1).2 = km at CM mk5 mk6 mk7
        have mh1 := markF_sz g km
        have mh4 := markF_le g km 0
        have mh5 : (markF g km).2 ≤ 1000000000 := by omega
        have mh6 : (1 : Int) ≤ (markF g km).2 := by omega
        have CM2 := Lib.hid fun W (h : OwnF W (w4.heap.size + 1) (.slice (some ⟨gy, 0, none⟩) g.length g.length) vsy g) => markForm_calls _ vsy g km W (w4.heap.size + 1) h (by omega) mh5
        clear mh1 mh4
        generalize (markF g km).2 = kn at CM2 mh5 mh6
        have mg1 := markF_end h 1
        have mg2 := HGZ.out
        have mg3 : (1 : Int) ≤ (markF h 1).2 := by omega
        have mg4 : (markF h 1).2 ≤ 1000000000 := by omega
        have CMG := Lib.hid fun W (ho : OwnF W (w5.heap.size + 1) (.slice ag h.length cg) vsg h) => markForm_own _ vsg h 1 W (w5.heap.size + 1) ho (by omega) mg4
        have CHG := Lib.hid fun W (ho : OwnF W (w5.heap.size + 1) (.slice ag h.length cg) vsg (markF h 1).1) => heldForm_calls _ h 1 W _ _ (Nat.le_refl _) ho.nodesZ (by omega) mg4
        clear mg1 mg2
        generalize (markF h 1).2 = kg2 at CMG CHG mg3 mg4
        go_wp2_with fail
        refine CM.out.mono ?_
        rintro e w10 ⟨rfl, ho⟩
        have HB10 := Lib.hid (HB9.out.trans (ho.below HB9.out.size (fun g h => by have := HBX.out g h; omega)))
        have k1 := (ho.cell (o := 0) l1 (fun h => by have := HBX.out _ h; omega)).trans k1
        have k2 := (ho.cell (o := 0) l2 (fun h => by have := HBX.out _ h; omega)).trans k2
        have kq := (ho.cell (o := 0) lq (fun h => by have := HBX.out _ h; omega)).trans kq
        have kg := (ho.cell (o := 0) lg (fun h => by have := HBX.out _ h; omega)).trans kg
        have ky := (ho.cell (o := 0) ly (fun h => by have := HBX.out _ h; omega)).trans ky
        have HV10 := Lib.hid (HV9.out.only (by omega) ho (fun b h1 h2 h3 => by have := HBX.out b h3; omega))
        have HY10 := Lib.hid (HY9.out.only ho (fun b h1 h2 h3 => by have := HBX.out b h3; omega))
        have HG10 := Lib.hid (HG9.out.only ho (fun b h1 h2 h3 => by have := HBX.out b h3; omega))
        have hz10 := ho.size
        have l1 := block_of_cell k1
        have l2 := block_of_cell k2
        have lq := block_of_cell kq
        have lg := block_of_cell kg
        have ly := block_of_cell ky
        clear ho CM HV9 HG9 HX9 HY9 kx lx
        go_wp2_with fail
        refine (CM2.out _ HY10.out).mono ?_
        rintro e w11 ⟨rfl, ho⟩
        have HB11 := Lib.hid (HB10.out.trans (ho.below HB10.out.size (fun g h => by have := HBY.out g h; omega)))
        have k1 := (ho.cell (o := 0) l1 (fun h => by have := HBY.out _ h; omega)).trans k1
        have k2 := (ho.cell (o := 0) l2 (fun h => by have := HBY.out _ h; omega)).trans k2
        have kq := (ho.cell (o := 0) lq (fun h => by have := HBY.out _ h; omega)).trans kq
        have kg := (ho.cell (o := 0) lg (fun h => by have := HBY.out _ h; omega)).trans kg
        have HV11 := Lib.hid (HV10.out.only (by omega) ho (fun b h1 h2 h3 => by have := HBY.out b h3; omega))
        have HG11 := Lib.hid (HG10.out.only ho (fun b h1 h2 h3 => by have := HBY.out b h3; omega))
        have hz11 := ho.size
        have l1 := block_of_cell k1
        have l2 := block_of_cell k2
        have lq := block_of_cell kq
        have lg := block_of_cell kg
        clear ho CM2 HV10 HG10 HY10 ky ly
        go_wp2_with fail
        refine (eqForm_copy _ _ h _ HG11.out.copy ⟨_, _, by omega, HV11.out⟩).mono ?_
        rintro e w12 ⟨rfl, hb⟩
        have k1 := (bcell hb _ _ l1).trans k1
        have k2 := (bcell hb _ _ l2).trans k2
        have kq := (bcell hb _ _ lq).trans kq
        have kg := (bcell hb _ _ lg).trans kg
        have HB12 : Hid (Below w.heap.size w w12) := Lib.hid (HB11.out.trans (hb.mono HB11.out.size))
        have HV12 := Lib.hid (HV11.out.below hb (by omega))
        have HG12 := Lib.hid (HG11.out.below hb)
        have hz12 := hb.size
        have l1 := block_of_cell k1
        have l2 := block_of_cell k2
        have lq := block_of_cell kq
        have lg := block_of_cell kg
        have CM3 := Lib.hid (CMG.out w12 HG12.out)
        clear hb HV11 HG11 CMG HG12
        go_wp2_with fail
        refine CM3.out.mono ?_
        rintro e w13 ⟨rfl, hg13, ho⟩
        have HB13 := Lib.hid (HB12.out.trans (ho.below HB12.out.size (fun g h => by have := HBG.out g h; omega)))
        have k1 := (ho.cell (o := 0) l1 (fun h => by have := HBG.out _ h; omega)).trans k1
        have k2 := (ho.cell (o := 0) l2 (fun h => by have := HBG.out _ h; omega)).trans k2
        have kq := (ho.cell (o := 0) lq (fun h => by have := HBG.out _ h; omega)).trans kq
        have kg := (ho.cell (o := 0) lg (fun h => by have := HBG.out _ h; omega)).trans kg
        have HV13 := Lib.hid (HV12.out.only (by omega) ho (fun b h1 h2 h3 => by have := HBG.out b h3; omega))
        have hz13 := ho.size
        have l1 := block_of_cell k1
        have l2 := block_of_cell k2
        have lq := block_of_cell kq
        have lg := block_of_cell kg
        have HG13 := Lib.hid hg13
        have CH1 := Lib.hid (CHG.out w13 hg13)
        clear ho hg13 HV12 CM3
        go_wp2_with fail
        refine CH1.out.mono ?_
        rintro e w14 ⟨rfl, hb⟩
        have k1 := (bcell hb _ _ l1).trans k1
        have k2 := (bcell hb _ _ l2).trans k2
        have kq := (bcell hb _ _ lq).trans kq
        have kg := (bcell hb _ _ lg).trans kg
        have HB14 : Hid (Below w.heap.size w w14) := Lib.hid (HB13.out.trans (hb.mono HB13.out.size))
        have HV14 := Lib.hid (HV13.out.below hb (by omega))
        have HG14 := Lib.hid (HG13.out.below hb)
        have hz14 := hb.size
        have l1 := block_of_cell k1
        have l2 := block_of_cell k2
        have lq := block_of_cell kq
        have lg := block_of_cell kg
        clear hb HV13 HG13 CH1
        have b1 := l1
        have b2 := l2
        have hS0 := twoL_start k1 k2
        have HBW := Lib.hid fun W (hW : Below w14.heap.size w14 W) => HB14.out.trans (hW.mono HB14.out.size)
        go_upto_region 31 with fail
        go_cut [15, 16] (fun s6 s7 wx => ∃ (q : Nat) (av : Option Addr) (cv : Nat), s6 = .pointer (some ⟨q, 0, none⟩) ∧ s7 = .bool r ∧ (w14.heap.size ≤ q ∧ q < wx.heap.size) ∧ wx.cell? ⟨q, 0, none⟩ = some (.slice av h.length cv) ∧ NodesZ wx w14.heap.size wx.heap.size (.slice av h.length cv) h ∧ TwoL w14 w.heap.size (w.heap.size + 1) u u' wx)
        case first =>
          go_region_held3 (fun w' : World => w'.cell? ⟨w.heap.size, 0, none⟩ = some u ∧ w'.cell? ⟨w.heap.size + 1, 0, none⟩ = some u' ∧ Below w14.heap.size w14 w') (first | exact hS0 | (go_split_ands; exact ⟨‹_›, ‹_›, ‹_›⟩) | (go_split_ands; exact twoL_next b1 b2 hbc ⟨‹_›, ‹_›, ‹_›⟩) | (go_split_ands; exact twoL_next b1 b2 hbb ⟨‹_›, ‹_›, ‹_›⟩) | (go_split_ands; exact twoL_next b1 b2 hba ⟨‹_›, ‹_›, ‹_›⟩) | (go_split_ands; exact twoL_next b1 b2 ((Below.refl _ _).alloc (Nat.le_refl _) _) ⟨‹_›, ‹_›, ‹_›⟩) | (go_split_ands; refine twoL_far b1 b2 ?_ ⟨‹_›, ‹_›, ‹_›⟩; (omega)) | (go_split_ands; refine twoL_swap b1 b2 ?_ ⟨‹_›, ‹_›, ‹_›⟩; (omega))) (first | (go_at_call 10; go_split_ands; refine (OrdinalSumIz_copy _ _ f g h r HR _ (by first | assumption | exact CopyOf.below (by assumption) hbb | exact CopyOf.below (CopyOf.below (by assumption) ((Below.refl _ _).alloc (Nat.le_refl _) _)) hbb | exact CopyOf.below (CopyOf.below (by assumption) hbb) ((Below.refl _ _).alloc (Nat.le_refl _) _)) (by first | assumption | exact CopyOf.below (by assumption) ((Below.refl _ _).alloc (Nat.le_refl _) _))).mono ?_; rintro e wc ⟨av, cv, rfl, hzn, hbc⟩; have hr := bcell hbc; have hrf := (fun q (hq) => Below.frozen hbc (p := ⟨q, 0, none⟩) hq); have hz := hbc.size; (try simp at hz); (try (have hbbc := Below.trans hbb (Below.mono hbc hbb.size); have hr := bcell hbbc; have hrf := (fun q (hq) => Below.frozen hbbc (p := ⟨q, 0, none⟩) hq))); (try (have habc := Below.trans hab (Below.mono hbc hab.size); have hr := bcell habc; have hrf := (fun q (hq) => Below.frozen habc (p := ⟨q, 0, none⟩) hq)))) | (go_at_call 9; go_split_ands; (with_reducible refine (CT.out _ (HBW.out _ (by assumption))).mono ?_); rintro e wa ⟨a1, n1, c1, rfl, hx1, hba⟩; have hr := bcell hba; have hrf := (fun q (hq) => Below.frozen hba (p := ⟨q, 0, none⟩) hq); have hz := hba.size; (try simp at hz)) | (go_at_call 9; go_split_ands; (with_reducible refine (CT'.out _ (HBW.out _ (by assumption))).mono ?_); rintro e wb ⟨a2, n2, c2, rfl, hx2, hbb⟩; have hr := bcell hbb; have hrf := (fun q (hq) => Below.frozen hbb (p := ⟨q, 0, none⟩) hq); have hz := hbb.size; (try simp at hz); (try (have hab := Below.trans hba (Below.mono hbb hba.size); have hr := bcell hab; have hrf := (fun q (hq) => Below.frozen hab (p := ⟨q, 0, none⟩) hq)))))
          all_goals
            rename_i hH
            go_wp2_with fail
            go_meet
            first
              | exact ⟨_, av, cv, rfl, rfl, ⟨by omega, by simp⟩, by go_simp, nodes_alloc hzn (by omega), hH⟩
              | exact ⟨_, av, cv, rfl, rfl, ⟨by omega, by first | (simp; done) | (simp; omega)⟩, set_same (v := .slice none 0 0) hr (by first | (simp; done) | (simp; omega) | omega) (by go_simp), nodes_set hzn (by first | omega | (simp; done) | (simp; omega)) (by first | omega | (simp; done) | (simp; omega)), hH⟩
        case rest =>
          obtain ⟨w15, rfl⟩ : ∃ W : World, W = wc := ⟨_, rfl⟩
          obtain ⟨qh, ah, ch, rfl, rfl, ⟨hqh1, hqh2⟩, kh, hvh, _, _, hbw⟩ := hcut
          have kq := (bcell hbw _ _ lq).trans kq
          have kg := (bcell hbw _ _ lg).trans kg
          have HB15 := Lib.hid (HBW.out _ hbw)
          have HV15 := Lib.hid (HV14.out.below hbw (by omega))
          have HG15 := Lib.hid (HG14.out.below hbw)
          have hz15 := hbw.size
          have CE2 := Lib.hid (eqForm_copy _ _ h _ ⟨_, _, Nat.le_refl _, hvh⟩ ⟨_, _, by omega, HV15.out⟩)
          clear hbw hS0 HBW HV14 HG14 hvh k1 k2 l1 l2
          have lq := block_of_cell kq
          have lg := block_of_cell kg
          go_wp2_with fail
          refine CE2.out.mono ?_
          rintro e w16 ⟨rfl, hb⟩
          have kg := (bcell hb _ _ lg).trans kg
          have HB16 : Hid (Below w.heap.size w w16) := Lib.hid (HB15.out.trans (hb.mono HB15.out.size))
          have HG16 := Lib.hid (HG15.out.below hb)
          have CH2 := Lib.hid (CHG.out w16 HG16.out)
          clear hb HG15 CE2 kq kh
          go_wp2_with fail
          refine CH2.out.mono ?_
          rintro e w17 ⟨rfl, hb⟩
          have HB17 : Hid (Below w.heap.size w w17) := Lib.hid (HB16.out.trans (hb.mono HB16.out.size))
          clear hb
          go_wp2_with fail
          go_ret
          exact ⟨rfl, HB17.out⟩

end Go.Proofs.Ytanjanckkgbnbaa
