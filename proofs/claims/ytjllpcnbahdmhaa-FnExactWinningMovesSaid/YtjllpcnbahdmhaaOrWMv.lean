/- The walk of laws.FnExactWinningMoves. -/
import Derived.Test.YtjllpcnbahdmhaaFmLaw
import Derived.Test.YtjllpcnbahdmhaaFmToOwn
import Derived.Test.YtjllpcnbahdmhaaFmMark
import Derived.Test.YtjllpcnbahdmhaaOrMvS
namespace Go.Proofs.Ytjllpcnbahdmhaa
open Go.RowKit
set_option linter.unusedVariables false
set_option linter.unusedSimpArgs false

theorem winmI_copy (v : Value) (f : List Nz) (l r : Bool) (ms : List Int) (hr : Hid (movesV f l = ms ∧ goodB f = r)) (w : World) (h : CopyOf w v f) :
    Calls Try.prog 22 #[.agg #[v], .bool l] w fun e w' => ∃ a c, e = .returned (.tuple #[.slice a ms.length c, .bool r]) ∧ OwnI w' w.heap.size (.slice a ms.length c) ms ∧ Below w.heap.size w w' := by
  obtain ⟨lo, hi, hh, h⟩ := h
  refine (winningI_calls v f l r ms (Lib.hid hr.out.2) (Lib.hid hr.out.1) w lo hi hh h).mono ?_
  rintro e w' ⟨v, he, ho, hb⟩
  obtain ⟨a, c, rfl⟩ := ho.form
  exact ⟨a, c, he, ho, hb⟩
theorem winmM_copy (v : Value) (f : List Nz) (l r : Bool) (ms : List Int) (hr : Hid (movesV f l = ms ∧ goodB f = r)) (w : World) (h : CopyOf w v f) :
    Calls Try.prog 21 #[.agg #[v], .bool l] w fun e w' => ∃ a c, e = .returned (.tuple #[.slice a ms.length c, .bool r]) ∧ OwnI w' w.heap.size (.slice a ms.length c) ms ∧ Below w.heap.size w w' := by
  obtain ⟨lo, hi, hh, h⟩ := h
  refine (winningS_calls v f l r ms (Lib.hid hr.out.2) (Lib.hid hr.out.1) w lo hi hh h).mono ?_
  rintro e w' ⟨v, he, ho, hb⟩
  obtain ⟨a, c, rfl⟩ := ho.form
  exact ⟨a, c, he, ho, hb⟩

theorem toForm_ownC (v : Value) (f : List Nz) (w : World) (hv : CopyOf w v f) (hl : szNs f ≤ 1048576) :
    Calls Try.prog 14 #[.agg #[v]] w fun e w' => ∃ g vs, e = .returned (.agg #[.slice (some ⟨g, 0, none⟩) f.length f.length]) ∧ OwnF w' w.heap.size (.slice (some ⟨g, 0, none⟩) f.length f.length) vs f ∧ Below w.heap.size w w' := by
  obtain ⟨lo, hi, hh, h⟩ := hv
  exact toForm_own v f w lo hi hh h hl

theorem OwnF.copy {w : World} {base : Nat} {v : Value} {vs : List (Value × Value)} {f : List Nz} (h : OwnF w base v vs f) : CopyOf w v f := ⟨_, _, Nat.le_refl _, h.nodesZ⟩

theorem eqI_own (v v' : Value) (l : List Int) (w : World) (base base' : Nat) (h : OwnI w base v l) (h' : OwnI w base' v' l) :
    Calls Try.prog 23 #[v, v'] w fun e w' => e = .returned (.bool true) ∧ Below w.heap.size w w' :=
  (eqIntS_same v v' l w base w.heap.size base' w.heap.size h.ints h'.ints).mono fun _ _ ⟨he, m, hm⟩ => ⟨he, hm ▸ below_drewN (Below.refl _ _) m⟩

theorem heldI_own (v : Value) (k : Int) (n : Nat) (w : World) (base : Nat) (h : OwnI w base v (nums k n)) (h0 : 0 ≤ k) (h1 : k + (n : Int) ≤ 1000000000) :
    Calls Try.prog 25 #[v, .int .i64 k] w fun e w' => e = .returned (.int .i64 (k + (n : Int))) ∧ w' = w := heldI_calls v k n w base w.heap.size h.ints h0 h1

theorem markF_sz (f : List Nz) (k : Int) : (markF f k).2 ≤ k + (szNs f : Int) := by
  rw [markF_end]
  unfold szNs
  omega

theorem movesV_len (f : List Nz) (l : Bool) : (movesV f l).length ≤ 1000 := by
  unfold movesV
  split
  · rename_i h
    have h1 := movesK_len (f.map downN) (optsD (f.map downN) (f.length - 1) l) l (optsD (f.map downN) (f.length - 1) l).length
    obtain ⟨hf1, hf2, _⟩ := (goodB_iff f).1 h
    have e1 : (f.map downN).length = f.length := by simp
    obtain ⟨nd, hnd⟩ := lt_get (l := f.map downN) (i := f.length - 1) (by rw [e1]; have := hf1.1; omega)
    have hl : nd.1.length ≤ 24 ∧ nd.2.length ≤ 24 := by
      obtain ⟨x, hx, rfl⟩ := List.mem_map.1 (List.mem_of_getElem? hnd)
      have := hf1.2.2 x hx
      simpa [downN, downL] using this
    have h2 : (optsD (f.map downN) (f.length - 1) l).length ≤ 24 := by
      unfold optsD
      rw [nodeD_at hnd]
      cases l
      · exact hl.2
      · exact hl.1
    omega
  · simp

set_option maxRecDepth 100000 in
set_option maxHeartbeats 8000000 in
theorem fnExactWinningMoves_walk (u : Value) (f : List Nz) (l : Bool) (w : World) (hu : CopyOf w u f) :
    Calls Try.prog 5 #[.agg #[u], .bool l] w fun e w' => e = .returned (.bool true) ∧ Below w.heap.size w w' := by
  have HU := Lib.hid fun W (hW : Below w.heap.size w W) => hu.below hW
  have CZ := Lib.hid fun W (hW : Below w.heap.size w W) => szForm_copy u f W 1048576 (by omega) (by omega) (hu.below hW)
  clear hu
  have HS : Hid (0 ≤ leftOf 1048576 (szNs f) → szNs f ≤ 1048576) := Lib.hid (fun h => by have := leftOf_neg 1048576 (szNs f) (by omega); omega)
  generalize leftOf 1048576 (szNs f) = m1 at CZ HS
  have HB0 : Hid (Below w.heap.size w (w.alloc (.cells #[u] 24))) := Lib.hid ((Below.refl _ _).alloc (Nat.le_refl _) _)
  go_enter Try.func5, Try.ntmps5
  go_wp2_with fail
  refine (CZ.out _ HB0.out).mono ?_
  rintro e w1 ⟨rfl, hb⟩
  have k1 : w1.cell? ⟨w.heap.size, 0, none⟩ = some u := (bcell hb _ _ (by simp)).trans (by go_simp)
  have HB1 : Hid (Below w.heap.size w w1) := Lib.hid (HB0.out.trans (hb.mono (by simp)))
  clear hb
  by_cases hn : m1 < 0
  · go_wp2_with fail
    go_ret
    exact ⟨rfl, HB1.out⟩
  have hm0 : 0 ≤ m1 := by omega
  have hf : Hid (szNs f ≤ 1048576) := Lib.hid (HS.out hm0)
  have CT := Lib.hid fun W (hW : Below w.heap.size w W) => toForm_copy u f W (HU.out W hW) hf.out
  have CTO := Lib.hid fun W (hW : Below w.heap.size w W) => toForm_ownC u f W (HU.out W hW) hf.out
  clear HS CZ
  obtain ⟨r, hr⟩ : ∃ r, goodB f = r := ⟨_, rfl⟩
  obtain ⟨ms, hms⟩ : ∃ n : List Int, movesV f l = n := ⟨_, rfl⟩
  have hml : ms.length ≤ 1000 := by rw [← hms]; exact movesV_len f l
  have HR := Lib.hid (And.intro hms hr)
  clear hr hms
  have q2 : (r != r) = false := by simp
  have b1 := block_of_cell k1
  go_wp2_with fail
  refine (CT.out _ HB1.out).mono ?_
  rintro e w2 ⟨a0, n0, c0, rfl, hx0, hb⟩
  have HX := Lib.hid hx0
  have k1 := (bcell hb _ _ b1).trans k1
  have HB2 : Hid (Below w.heap.size w w2) := Lib.hid (HB1.out.trans (hb.mono HB1.out.size))
  have b1 := block_of_cell k1
  clear hb hx0 HB1
  go_wp2_with fail
  refine (winmM_copy _ f l r ms HR _ HX.out).mono ?_
  rintro e w3 ⟨av, cv, rfl, hv0, hb⟩
  have HV0 := Lib.hid hv0
  have HL0 := Lib.hid (fun g h => (hv0.lt g h).2)
  have k1 := (bcell hb _ _ b1).trans k1
  have HB3 : Hid (Below w.heap.size w w3) := Lib.hid (HB2.out.trans (hb.mono HB2.out.size))
  have b1 := block_of_cell k1
  clear hb HX hv0 HB2
  go_wp2_with fail
  refine (CTO.out _ HB3.out).mono ?_
  rintro e w4 ⟨gx, vs, rfl, hx, hb⟩
  have HX := Lib.hid hx
  have HV0 := Lib.hid (HV0.out.below hb)
  have k1 := (bcell hb _ _ b1).trans k1
  have HB4 : Hid (Below w.heap.size w w4) := Lib.hid (HB3.out.trans (hb.mono HB3.out.size))
  have hz34 := hb.size
  have b1 := block_of_cell k1
  clear hb hx
  go_wp2_with fail
  have HB4' : Hid (Below w4.heap.size w4 (w4.alloc (.cells #[.slice (some ⟨gx, 0, none⟩) f.length f.length] 28))) := Lib.hid ((Below.refl _ _).alloc (Nat.le_refl _) _)
  refine (winmI_copy _ f l r ms HR _ (HX.out.copy.below HB4'.out)).mono ?_
  rintro e w5 ⟨ag, cg, rfl, hvg, hb⟩
  have k2 : w5.cell? ⟨w4.heap.size, 0, none⟩ = some (.slice (some ⟨gx, 0, none⟩) f.length f.length) := (bcell hb _ _ (by simp)).trans (by go_simp)
  have k1 : w5.cell? ⟨w.heap.size, 0, none⟩ = some u := (bcell hb _ _ (by simp; omega)).trans ((bcell HB4'.out _ _ b1).trans k1)
  have HB45 : Hid (Below w4.heap.size w4 w5) := Lib.hid (HB4'.out.trans (hb.mono (by simp)))
  have HB5 : Hid (Below w.heap.size w w5) := Lib.hid (HB4.out.trans (HB45.out.mono HB4.out.size))
  have HX5 := Lib.hid (HX.out.below HB45.out)
  have HV5 := Lib.hid (HV0.out.below HB45.out)
  have HG5 : Hid (OwnI w5 w4.heap.size (.slice ag ms.length cg) ms) := Lib.hid (hvg.mono (by simp))
  have HGL := Lib.hid (fun g h => (HG5.out.lt g h).1)
  have HBK : Hid (∀ b, BlkF vs b → w3.heap.size ≤ b ∧ b < w4.heap.size) := Lib.hid (fun b hb => HX.out.blk hb)
  clear hb hvg HB4' HB45 HX HV0
  have b1 := block_of_cell k1
  have b2 := block_of_cell k2
  go_wp2_with fail
  refine (eqI_own _ _ ms _ _ _ HG5.out HV5.out).mono ?_
  rintro e w6 ⟨rfl, hb⟩
  have k1 := (bcell hb _ _ b1).trans k1
  have k2 := (bcell hb _ _ b2).trans k2
  have HB6 : Hid (Below w.heap.size w w6) := Lib.hid (HB5.out.trans (hb.mono HB5.out.size))
  have HX6 := Lib.hid (HX5.out.below hb)
  have HV6 := Lib.hid (HV5.out.below hb)
  have HG6 := Lib.hid (HG5.out.below hb)
  have hz56 := hb.size
  clear hb HX5 HV5 HG5
  have HXW := Lib.hid fun W (hW : Below w6.heap.size w6 W) => HX6.out.copy.below hW
  have HBW6 := Lib.hid fun W (hW : Below w6.heap.size w6 W) => HB6.out.trans (hW.mono HB6.out.size)
  have b1 := block_of_cell k1
  have b2 := block_of_cell k2
  have hS0 := twoL_start k1 k2
  go_upto_region 3 with fail
  go_cut [49] (fun s49 wx => s49 = .bool false ∧ TwoL w6 w.heap.size w4.heap.size u (.slice (some ⟨gx, 0, none⟩) f.length f.length) wx)
  case first =>
    go_region_held3 (fun w' : World => w'.cell? ⟨w.heap.size, 0, none⟩ = some u ∧ w'.cell? ⟨w4.heap.size, 0, none⟩ = some (.slice (some ⟨gx, 0, none⟩) f.length f.length) ∧ Below w6.heap.size w6 w') (first | exact hS0 | (go_split_ands; exact ⟨‹_›, ‹_›, ‹_›⟩) | (go_split_ands; exact twoL_next b1 b2 hbc ⟨‹_›, ‹_›, ‹_›⟩) | (go_split_ands; exact twoL_next b1 b2 hba ⟨‹_›, ‹_›, ‹_›⟩)) (first | (go_at_call 16; go_split_ands; refine (eqForm_copy _ _ _ _ (CopyOf.below (HXW.out _ (by assumption)) hba) (by assumption)).mono ?_; rintro e wc ⟨rfl, hbc⟩) | (go_at_call 14; go_split_ands; (with_reducible refine (CT.out _ (HBW6.out _ (by assumption))).mono ?_); rintro e wa ⟨a3, n3, c3, rfl, hx1, hba⟩))
    all_goals
      rename_i hH
      go_wp2_with fail
      go_meet
      exact ⟨rfl, hH⟩
  case rest =>
    obtain ⟨rfl, hT⟩ := hcut
    obtain ⟨k1, k2, hbw⟩ := hT
    have b1 := block_of_cell k1
    have b2 := block_of_cell k2
    have HB7 := Lib.hid (HBW6.out _ hbw)
    have HX7 := Lib.hid (HX6.out.below hbw)
    have HV7 := Lib.hid (HV6.out.below hbw)
    have HG7 := Lib.hid (HG6.out.below hbw)
    have hz67 := hbw.size
    have mk1 := markF_sz f 1
    have mk2 := hf.out
    have mk3 := (markF_le f 1 0)
    have mk4 : (1 : Int) ≤ (markF f 1).2 := by omega
    have mk5 : (markF f 1).2 ≤ 1000000000 := by omega
    have CM := Lib.hid (markForm_calls _ vs f 1 _ w3.heap.size HX7.out (by omega) mk5)
    clear hbw hS0 HBW6 HX6 HV6 HG6 HXW mk1 mk2 mk3
    generalize (markF f 1).2 = km at CM mk4 mk5
    go_wp2_with fail
    refine CM.out.mono ?_
    rintro e w8 ⟨rfl, ho⟩
    have HB8 := Lib.hid (HB7.out.trans (ho.below HB7.out.size (fun g h => by have := HBK.out g h; have := HB3.out.size; omega)))
    have k1 := (ho.cell (o := 0) b1 (fun h => by have := HBK.out _ h; have := HB3.out.size; omega)).trans k1
    have HV8 := Lib.hid (HV7.out.only ho (fun g h h2 => by have := HL0.out g h; have := HBK.out g h2; omega))
    have HG8 := Lib.hid (HG7.out.only ho (fun g h h2 => by have := HGL.out g h; have := HBK.out g h2; omega))
    have b1 := block_of_cell k1
    clear ho CM HV7 HG7 HX7 k2 b2
    go_wp2_with fail
    refine (eqI_own _ _ ms _ _ _ HG8.out HV8.out).mono ?_
    rintro e w9 ⟨rfl, hb⟩
    have k1 := (bcell hb _ _ b1).trans k1
    have HB9 : Hid (Below w.heap.size w w9) := Lib.hid (HB8.out.trans (hb.mono HB8.out.size))
    have HV9 := Lib.hid (HV8.out.below hb)
    have HG9 := Lib.hid (HG8.out.below hb)
    have b1 := block_of_cell k1
    clear hb HV8 HG8
    go_wp2_with fail
    refine (markI_calls _ ms 1 _ _ HG9.out (by omega) (by omega)).mono ?_
    rintro e w10 ⟨rfl, hg10, ho⟩
    have HB10 := Lib.hid (HB9.out.trans (ho.below HB9.out.size (fun g h => by have := HGL.out g h; have := HB4.out.size; omega)))
    have k1 := (ho.cell (o := 0) b1 (fun h => by have := HGL.out _ h; have := HB4.out.size; omega)).trans k1
    have HV10 := Lib.hid (HV9.out.only ho (fun g h h2 => by have := HL0.out g h; have := HGL.out g h2; omega))
    have HG10 := Lib.hid hg10
    have b1 := block_of_cell k1
    clear ho hg10 HV9 HG9
    go_wp2_with fail
    refine (heldI_own _ 1 ms.length _ _ HG10.out (by omega) (by omega)).mono ?_
    rintro e w11 ⟨rfl, rfl⟩
    go_wp2_with fail
    refine (CT.out _ HB10.out).mono ?_
    rintro e w12 ⟨a5, n5, c5, rfl, hx5, hb⟩
    have HX := Lib.hid hx5
    have HB12 : Hid (Below w.heap.size w w12) := Lib.hid (HB10.out.trans (hb.mono HB10.out.size))
    have HV12 := Lib.hid (HV10.out.below hb)
    have HG12 := Lib.hid (HG10.out.below hb)
    clear hb hx5 HV10 HG10
    go_wp2_with fail
    refine (winmI_copy _ f l r ms HR _ HX.out).mono ?_
    rintro e w13 ⟨ah, ch, rfl, hvh, hb⟩
    have HB13 : Hid (Below w.heap.size w w13) := Lib.hid (HB12.out.trans (hb.mono HB12.out.size))
    have HV13 := Lib.hid (HV12.out.below hb)
    have HG13 := Lib.hid (HG12.out.below hb)
    have HH13 := Lib.hid hvh
    clear hb hvh HV12 HG12 HX
    go_wp2_with fail
    refine (eqI_own _ _ ms _ _ _ HH13.out HV13.out).mono ?_
    rintro e w14 ⟨rfl, hb⟩
    have HB14 : Hid (Below w.heap.size w w14) := Lib.hid (HB13.out.trans (hb.mono HB13.out.size))
    have HG14 := Lib.hid (HG13.out.below hb)
    clear hb HV13 HG13 HH13
    go_wp2_with fail
    refine (heldI_own _ 1 ms.length _ _ HG14.out (by omega) (by omega)).mono ?_
    rintro e w15 ⟨rfl, rfl⟩
    go_wp2_with fail
    go_ret
    exact ⟨rfl, HB14.out⟩

end Go.Proofs.Ytjllpcnbahdmhaa
