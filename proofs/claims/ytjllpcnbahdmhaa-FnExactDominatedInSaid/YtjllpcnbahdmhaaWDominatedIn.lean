/- The walk of laws.FnExactDominatedIn. -/
import Derived.Test.YtjllpcnbahdmhaaFmLaw
import Derived.Test.YtjllpcnbahdmhaaFmToOwn
import Derived.Test.YtjllpcnbahdmhaaFmMark
import Derived.Test.YtjllpcnbahdmhaaDmAll
namespace Go.Proofs.Ytjllpcnbahdmhaa
open Go.RowKit
set_option linter.unusedVariables false
set_option linter.unusedSimpArgs false

theorem i2I_copy (v : Value) (f : List Nz) (r : Bool) (ms mt : List Int) (hr : Hid (domV f true = ms ∧ domV f false = mt ∧ goodB f = r)) (w : World) (h : CopyOf w v f) :
    Calls Try.prog 37 #[.agg #[v]] w fun e w' => ∃ a c b d, e = .returned (.tuple #[.slice a ms.length c, .slice b mt.length d, .bool r]) ∧ OwnI w' w.heap.size (.slice a ms.length c) ms ∧ OwnI w' w.heap.size (.slice b mt.length d) mt ∧ Apart (.slice a ms.length c) (.slice b mt.length d) ∧ Below w.heap.size w w' := by
  obtain ⟨lo, hi, hh, h⟩ := h
  refine (dominatedIn_calls v f r ms mt (Lib.hid hr.out.2.2) (Lib.hid hr.out.1) (Lib.hid hr.out.2.1) w lo hi hh h).mono ?_
  rintro e w' ⟨v, u, he, ho, hu, hap, hb⟩
  obtain ⟨a, c, rfl⟩ := ho.form
  obtain ⟨b, d, rfl⟩ := hu.form
  exact ⟨a, c, b, d, he, ho, hu, hap, hb⟩

/-- a list that lies within a range of blocks -/
def IZ (w : World) (lo hi : Nat) (v : Value) (l : List Int) : Prop := hi ≤ w.heap.size ∧ IntsZ w lo hi v l
theorem IZ.below {w w' : World} {lo hi : Nat} {v : Value} {l : List Int} (h : IZ w lo hi v l) (hb : Below w.heap.size w w') : IZ w' lo hi v l := ⟨Nat.le_trans h.1 hb.size, h.2.below hb h.1⟩
theorem IZ.only {w w' : World} {lo hi : Nat} {v : Value} {l : List Int} {F : Nat → Prop} (h : IZ w lo hi v l) (ho : Only w w' F) (hn : ∀ b, lo ≤ b → b < hi → ¬ F b) : IZ w' lo hi v l := ⟨Nat.le_trans h.1 ho.size, h.2.keep (fun b o h1 h2 => ho.cell (by have := h.1; omega) (hn b h1 h2))⟩

theorem i2M_copy (v : Value) (f : List Nz) (r : Bool) (ms mt : List Int) (hr : Hid (domV f true = ms ∧ domV f false = mt ∧ goodB f = r)) (w : World) (h : CopyOf w v f) :
    Calls Try.prog 36 #[.agg #[v]] w fun e w' => ∃ a c b d, e = .returned (.tuple #[.slice a ms.length c, .slice b mt.length d, .bool r]) ∧ IZ w' w.heap.size w'.heap.size (.slice a ms.length c) ms ∧ IZ w' w.heap.size w'.heap.size (.slice b mt.length d) mt ∧ Below w.heap.size w w' := by
  obtain ⟨lo, hi, hh, h⟩ := h
  refine (dominatedInS_calls v f r ms mt (Lib.hid hr.out.2.2) (Lib.hid hr.out.1) (Lib.hid hr.out.2.1) w lo hi hh h).mono ?_
  rintro e w' ⟨v, u, he, ho, hu, hb⟩
  obtain ⟨a, c, rfl, h2⟩ := ho
  obtain ⟨b, d, rfl, h3⟩ := hu
  exact ⟨a, c, b, d, he, ⟨Nat.le_refl _, a, c, rfl, h2⟩, ⟨Nat.le_refl _, b, d, rfl, h3⟩, hb⟩

theorem toForm_ownC (v : Value) (f : List Nz) (w : World) (hv : CopyOf w v f) (hl : szNs f ≤ 1048576) :
    Calls Try.prog 14 #[.agg #[v]] w fun e w' => ∃ g vs, e = .returned (.agg #[.slice (some ⟨g, 0, none⟩) f.length f.length]) ∧ OwnF w' w.heap.size (.slice (some ⟨g, 0, none⟩) f.length f.length) vs f ∧ Below w.heap.size w w' := by
  obtain ⟨lo, hi, hh, h⟩ := hv
  exact toForm_own v f w lo hi hh h hl

theorem OwnF.copy {w : World} {base : Nat} {v : Value} {vs : List (Value × Value)} {f : List Nz} (h : OwnF w base v vs f) : CopyOf w v f := ⟨_, _, Nat.le_refl _, h.nodesZ⟩

theorem eqI_own (v v' : Value) (l : List Int) (w : World) (base base' : Nat) (h : OwnI w base v l) (h' : OwnI w base' v' l) :
    Calls Try.prog 23 #[v, v'] w fun e w' => e = .returned (.bool true) ∧ Below w.heap.size w w' :=
  (eqIntS_same v v' l w base w.heap.size base' w.heap.size h.ints h'.ints).mono fun _ _ ⟨he, m, hm⟩ => ⟨he, hm ▸ below_drewN (Below.refl _ _) m⟩

theorem heldI_own (v : Value) (k : Int) (n : Nat) (w : World) (base : Nat) (h : OwnI w base v (nums k n)) (h0 : 0 ≤ k) (h1 : k + (n : Int) ≤ 1000000000) :
    Calls Try.prog 25 #[v, .int .i64 k] w fun e w' => e = .returned (.int .i64 (k + (n : Int))) ∧ w' = w := heldI_calls v k n w base w.heap.size h.ints h0 h1

theorem markF_sz (f : List Nz) (k : Int) : (markF f k).2 ≤ k + (szNs f : Int) := by
  rw [markF_end]
  unfold szNs
  omega


theorem eqI_mix (v v' : Value) (l : List Int) (w : World) (base lo hi : Nat) (h : OwnI w base v l) (h' : IZ w lo hi v' l) :
    Calls Try.prog 23 #[v, v'] w fun e w' => e = .returned (.bool true) ∧ Below w.heap.size w w' :=
  (eqIntS_same v v' l w base w.heap.size lo hi h.ints h'.2).mono fun _ _ ⟨he, m, hm⟩ => ⟨he, hm ▸ below_drewN (Below.refl _ _) m⟩

set_option maxRecDepth 100000 in
set_option maxHeartbeats 8000000 in
theorem fnExactDominatedIn_walk (u : Value) (f : List Nz) (w : World) (hu : CopyOf w u f) :
    Calls Try.prog 9 #[.agg #[u]] w fun e w' => e = .returned (.bool true) ∧ Below w.heap.size w w' := by
  have HU := Lib.hid fun W (hW : Below w.heap.size w W) => hu.below hW
  have CZ := Lib.hid fun W (hW : Below w.heap.size w W) => szForm_copy u f W 1048576 (by omega) (by omega) (hu.below hW)
  clear hu
  have HS : Hid (0 ≤ leftOf 1048576 (szNs f) → szNs f ≤ 1048576) := Lib.hid (fun h => by have := leftOf_neg 1048576 (szNs f) (by omega); omega)
  generalize leftOf 1048576 (szNs f) = m1 at CZ HS
  have HB0 : Hid (Below w.heap.size w (w.alloc (.cells #[u] 24))) := Lib.hid ((Below.refl _ _).alloc (Nat.le_refl _) _)
  go_enter Try.func9, Try.ntmps9
  go_wp2_with fail
  refine (CZ.out _ HB0.out).mono ?_
  rintro e w1 ⟨rfl, hb⟩
  have k1 : w1.cell? ⟨w.heap.size, 0, none⟩ = some u := (bcell hb _ _ (by simp)).trans (by go_simp)
  have HB1 : Hid (Below w.heap.size w w1) := Lib.hid (HB0.out.trans (hb.mono (by simp)))
  clear hb
  by_cases hn : m1 < 0
  · go_wp2_with fail
    go_ret
    exact ⟨rfl, HB1.out⟩
  have hm0 : 0 ≤ m1 := by omega
  have hf : Hid (szNs f ≤ 1048576) := Lib.hid (HS.out hm0)
  have CT := Lib.hid fun W (hW : Below w.heap.size w W) => toForm_copy u f W (HU.out W hW) hf.out
  have CTO := Lib.hid fun W (hW : Below w.heap.size w W) => toForm_ownC u f W (HU.out W hW) hf.out
  clear HS CZ
  obtain ⟨r, hr⟩ : ∃ r, goodB f = r := ⟨_, rfl⟩
  obtain ⟨ms, hms⟩ : ∃ n : List Int, domV f true = n := ⟨_, rfl⟩
  obtain ⟨mt, hmt⟩ : ∃ n : List Int, domV f false = n := ⟨_, rfl⟩
  have hml : ms.length ≤ 1000 := by rw [← hms]; exact domV_len f true
  have hmk : mt.length ≤ 1000 := by rw [← hmt]; exact domV_len f false
  have HR := Lib.hid (And.intro hms (And.intro hmt hr))
  clear hr hms hmt
  have q2 : (r != r) = false := by simp
  have b1 := block_of_cell k1
  go_wp2_with fail
  refine (CT.out _ HB1.out).mono ?_
  rintro e w2 ⟨a0, n0, c0, rfl, hx0, hb⟩
  have HX := Lib.hid hx0
  have k1 := (bcell hb _ _ b1).trans k1
  have HB2 : Hid (Below w.heap.size w w2) := Lib.hid (HB1.out.trans (hb.mono HB1.out.size))
  have b1 := block_of_cell k1
  clear hb hx0 HB1
  go_wp2_with fail
  refine (i2M_copy _ f r ms mt HR _ HX.out).mono ?_
  rintro e w3 ⟨av, cv, bv, dv, rfl, hv0, hu0, hb⟩
  have HV0 := Lib.hid hv0
  have HW0 := Lib.hid hu0
  have hz23 := hb.size
  have k1 := (bcell hb _ _ b1).trans k1
  have HB3 : Hid (Below w.heap.size w w3) := Lib.hid (HB2.out.trans (hb.mono HB2.out.size))
  have b1 := block_of_cell k1
  clear hb HX hv0 hu0 HB2
  go_wp2_with fail
  refine (CTO.out _ HB3.out).mono ?_
  rintro e w4 ⟨gx, vs, rfl, hx, hb⟩
  have HX := Lib.hid hx
  have HV0 := Lib.hid (HV0.out.below hb)
  have HW0 := Lib.hid (HW0.out.below hb)
  have k1 := (bcell hb _ _ b1).trans k1
  have HB4 : Hid (Below w.heap.size w w4) := Lib.hid (HB3.out.trans (hb.mono HB3.out.size))
  have hz34 := hb.size
  have b1 := block_of_cell k1
  clear hb hx
  go_wp2_with fail
  have HB4' : Hid (Below w4.heap.size w4 (w4.alloc (.cells #[.slice (some ⟨gx, 0, none⟩) f.length f.length] 28))) := Lib.hid ((Below.refl _ _).alloc (Nat.le_refl _) _)
  refine (i2I_copy _ f r ms mt HR _ (HX.out.copy.below HB4'.out)).mono ?_
  rintro e w5 ⟨ag, cg, bg, dg, rfl, hvg, hug, hap, hb⟩
  have k2 : w5.cell? ⟨w4.heap.size, 0, none⟩ = some (.slice (some ⟨gx, 0, none⟩) f.length f.length) := (bcell hb _ _ (by simp)).trans (by go_simp)
  have k1 : w5.cell? ⟨w.heap.size, 0, none⟩ = some u := (bcell hb _ _ (by simp; omega)).trans ((bcell HB4'.out _ _ b1).trans k1)
  have HB45 : Hid (Below w4.heap.size w4 w5) := Lib.hid (HB4'.out.trans (hb.mono (by simp)))
  have HB5 : Hid (Below w.heap.size w w5) := Lib.hid (HB4.out.trans (HB45.out.mono HB4.out.size))
  have HX5 := Lib.hid (HX.out.below HB45.out)
  have HV5 := Lib.hid (HV0.out.below HB45.out)
  have HW5 := Lib.hid (HW0.out.below HB45.out)
  have HG5 : Hid (OwnI w5 w4.heap.size (.slice ag ms.length cg) ms) := Lib.hid (hvg.mono (by simp))
  have HK5 : Hid (OwnI w5 w4.heap.size (.slice bg mt.length dg) mt) := Lib.hid (hug.mono (by simp))
  have HGL := Lib.hid (fun g h => (HG5.out.lt g h).1)
  have HKL := Lib.hid (fun g h => (HK5.out.lt g h).1)
  have HAP := Lib.hid hap
  have HBK : Hid (∀ b, BlkF vs b → w3.heap.size ≤ b ∧ b < w4.heap.size) := Lib.hid (fun b hb => HX.out.blk hb)
  clear hb hvg hug hap HB4' HB45 HX HV0 HW0
  have b1 := block_of_cell k1
  have b2 := block_of_cell k2
  go_wp2_with fail
  refine (eqI_mix _ _ ms _ _ _ _ HG5.out HV5.out).mono ?_
  rintro e w5b ⟨rfl, hb⟩
  have k1 := (bcell hb _ _ b1).trans k1
  have k2 := (bcell hb _ _ b2).trans k2
  have HB5b : Hid (Below w.heap.size w w5b) := Lib.hid (HB5.out.trans (hb.mono HB5.out.size))
  have HX5b := Lib.hid (HX5.out.below hb)
  have HV5b := Lib.hid (HV5.out.below hb)
  have HW5b := Lib.hid (HW5.out.below hb)
  have HG5b := Lib.hid (HG5.out.below hb)
  have HK5b := Lib.hid (HK5.out.below hb)
  have hz55 := hb.size
  have b1 := block_of_cell k1
  have b2 := block_of_cell k2
  clear hb HX5 HV5 HW5 HG5 HK5
  go_wp2_with fail
  refine (eqI_mix _ _ mt _ _ _ _ HK5b.out HW5b.out).mono ?_
  rintro e w6 ⟨rfl, hb⟩
  have k1 := (bcell hb _ _ b1).trans k1
  have k2 := (bcell hb _ _ b2).trans k2
  have HB6 : Hid (Below w.heap.size w w6) := Lib.hid (HB5b.out.trans (hb.mono HB5b.out.size))
  have HX6 := Lib.hid (HX5b.out.below hb)
  have HV6 := Lib.hid (HV5b.out.below hb)
  have HW6 := Lib.hid (HW5b.out.below hb)
  have HG6 := Lib.hid (HG5b.out.below hb)
  have HK6 := Lib.hid (HK5b.out.below hb)
  have hz56 := hb.size
  clear hb HX5b HV5b HW5b HG5b HK5b
  have HXW := Lib.hid fun W (hW : Below w6.heap.size w6 W) => HX6.out.copy.below hW
  have HBW6 := Lib.hid fun W (hW : Below w6.heap.size w6 W) => HB6.out.trans (hW.mono HB6.out.size)
  have b1 := block_of_cell k1
  have b2 := block_of_cell k2
  have hS0 := twoL_start k1 k2
  go_upto_region 10 with fail
  go_cut [56] (fun s0 wx => s0 = .bool false ∧ TwoL w6 w.heap.size w4.heap.size u (.slice (some ⟨gx, 0, none⟩) f.length f.length) wx)
  case first =>
    go_region_held3 (fun w' : World => w'.cell? ⟨w.heap.size, 0, none⟩ = some u ∧ w'.cell? ⟨w4.heap.size, 0, none⟩ = some (.slice (some ⟨gx, 0, none⟩) f.length f.length) ∧ Below w6.heap.size w6 w') (first | exact hS0 | (go_split_ands; exact ⟨‹_›, ‹_›, ‹_›⟩) | (go_split_ands; exact twoL_next b1 b2 hbc ⟨‹_›, ‹_›, ‹_›⟩) | (go_split_ands; exact twoL_next b1 b2 hba ⟨‹_›, ‹_›, ‹_›⟩)) (first | (go_at_call 16; go_split_ands; refine (eqForm_copy _ _ _ _ (CopyOf.below (HXW.out _ (by assumption)) hba) (by assumption)).mono ?_; rintro e wc ⟨rfl, hbc⟩) | (go_at_call 14; go_split_ands; (with_reducible refine (CT.out _ (HBW6.out _ (by assumption))).mono ?_); rintro e wa ⟨a3, n3, c3, rfl, hx1, hba⟩))
    all_goals
      rename_i hH
      go_wp2_with fail
      go_meet
      exact ⟨rfl, hH⟩
  case rest =>
    obtain ⟨w7, rfl⟩ : ∃ W : World, W = wc := ⟨_, rfl⟩
    obtain ⟨rfl, hT⟩ := hcut
    obtain ⟨k1, k2, hbw⟩ := hT
    have b1 := block_of_cell k1
    have b2 := block_of_cell k2
    have HB7 := Lib.hid (HBW6.out _ hbw)
    have HX7 := Lib.hid (HX6.out.below hbw)
    have HV7 := Lib.hid (HV6.out.below hbw)
    have HW7 := Lib.hid (HW6.out.below hbw)
    have HG7 := Lib.hid (HG6.out.below hbw)
    have HK7 := Lib.hid (HK6.out.below hbw)
    have hz67 := hbw.size
    have mk1 := markF_sz f 1
    have mk2 := hf.out
    have mk3 := (markF_le f 1 0)
    have mk4 : (1 : Int) ≤ (markF f 1).2 := by omega
    have mk5 : (markF f 1).2 ≤ 1000000000 := by omega
    have CM := Lib.hid (markForm_calls _ vs f 1 _ w3.heap.size HX7.out (by omega) mk5)
    clear hbw hS0 HBW6 HX6 HV6 HW6 HG6 HK6 HXW mk1 mk2 mk3
    generalize (markF f 1).2 = km at CM mk4 mk5
    go_wp2_with fail
    refine CM.out.mono ?_
    rintro e w8 ⟨rfl, ho⟩
    have HB8 := Lib.hid (HB7.out.trans (ho.below HB7.out.size (fun g h => by have := HBK.out g h; have := HB3.out.size; omega)))
    have k1 := (ho.cell (o := 0) b1 (fun h => by have := HBK.out _ h; have := HB3.out.size; omega)).trans k1
    have HV8 := Lib.hid (HV7.out.only ho (fun g h1 h2 h3 => by have := HBK.out g h3; omega))
    have HW8 := Lib.hid (HW7.out.only ho (fun g h1 h2 h3 => by have := HBK.out g h3; omega))
    have HG8 := Lib.hid (HG7.out.only ho (fun g h h2 => by have := HGL.out g h; have := HBK.out g h2; omega))
    have HK8 := Lib.hid (HK7.out.only ho (fun g h h2 => by have := HKL.out g h; have := HBK.out g h2; omega))
    have b1 := block_of_cell k1
    clear ho CM HV7 HW7 HG7 HK7 HX7 k2 b2
    go_wp2_with fail
    refine (eqI_mix _ _ ms _ _ _ _ HG8.out HV8.out).mono ?_
    rintro e w9 ⟨rfl, hb⟩
    have k1 := (bcell hb _ _ b1).trans k1
    have HB9 : Hid (Below w.heap.size w w9) := Lib.hid (HB8.out.trans (hb.mono HB8.out.size))
    have HV9 := Lib.hid (HV8.out.below hb)
    have HW9 := Lib.hid (HW8.out.below hb)
    have HG9 := Lib.hid (HG8.out.below hb)
    have HK9 := Lib.hid (HK8.out.below hb)
    have b1 := block_of_cell k1
    clear hb HV8 HW8 HG8 HK8
    go_wp2_with fail
    refine (eqI_mix _ _ mt _ _ _ _ HK9.out HW9.out).mono ?_
    rintro e w10 ⟨rfl, hb⟩
    have k1 := (bcell hb _ _ b1).trans k1
    have HB10 : Hid (Below w.heap.size w w10) := Lib.hid (HB9.out.trans (hb.mono HB9.out.size))
    have HV10 := Lib.hid (HV9.out.below hb)
    have HW10 := Lib.hid (HW9.out.below hb)
    have HG10 := Lib.hid (HG9.out.below hb)
    have HK10 := Lib.hid (HK9.out.below hb)
    have b1 := block_of_cell k1
    clear hb HV9 HW9 HG9 HK9
    go_wp2_with fail
    refine (markI_calls _ ms 1 _ _ HG10.out (by omega) (by omega)).mono ?_
    rintro e w11 ⟨rfl, hg11, ho⟩
    have HB11 := Lib.hid (HB10.out.trans (ho.below HB10.out.size (fun g h => by have := HGL.out g h; have := HB4.out.size; omega)))
    have k1 := (ho.cell (o := 0) b1 (fun h => by have := HGL.out _ h; have := HB4.out.size; omega)).trans k1
    have HV11 := Lib.hid (HV10.out.only ho (fun g h1 h2 h3 => by have := HGL.out g h3; omega))
    have HW11 := Lib.hid (HW10.out.only ho (fun g h1 h2 h3 => by have := HGL.out g h3; omega))
    have HK11 := Lib.hid (HK10.out.only ho (fun g h h2 => HAP.out g h2 h))
    have HG11 := Lib.hid hg11
    have b1 := block_of_cell k1
    clear ho hg11 HV10 HW10 HG10 HK10
    go_wp2_with fail
    refine (markI_calls _ mt (1 + (ms.length : Int)) _ _ HK11.out (by omega) (by omega)).mono ?_
    rintro e w12 ⟨rfl, hg12, ho⟩
    have HB12 := Lib.hid (HB11.out.trans (ho.below HB11.out.size (fun g h => by have := HKL.out g h; have := HB4.out.size; omega)))
    have k1 := (ho.cell (o := 0) b1 (fun h => by have := HKL.out _ h; have := HB4.out.size; omega)).trans k1
    have HV12 := Lib.hid (HV11.out.only ho (fun g h1 h2 h3 => by have := HKL.out g h3; omega))
    have HW12 := Lib.hid (HW11.out.only ho (fun g h1 h2 h3 => by have := HKL.out g h3; omega))
    have HG12 := Lib.hid (HG11.out.only ho (fun g h h2 => HAP.out g h h2))
    have HK12 := Lib.hid hg12
    have b1 := block_of_cell k1
    clear ho hg12 HV11 HW11 HG11 HK11
    go_wp2_with fail
    refine (heldI_own _ 1 ms.length _ _ HG12.out (by omega) (by omega)).mono ?_
    rintro e w13 ⟨rfl, rfl⟩
    go_wp2_with fail
    refine (heldI_own _ (1 + (ms.length : Int)) mt.length _ _ HK12.out (by omega) (by omega)).mono ?_
    rintro e w13 ⟨rfl, rfl⟩
    go_wp2_with fail
    refine (CT.out _ HB12.out).mono ?_
    rintro e w14 ⟨a5, n5, c5, rfl, hx5, hb⟩
    have HX := Lib.hid hx5
    have HB14 : Hid (Below w.heap.size w w14) := Lib.hid (HB12.out.trans (hb.mono HB12.out.size))
    have HV14 := Lib.hid (HV12.out.below hb)
    have HW14 := Lib.hid (HW12.out.below hb)
    have HG14 := Lib.hid (HG12.out.below hb)
    have HK14 := Lib.hid (HK12.out.below hb)
    clear hb hx5 HV12 HW12 HG12 HK12
    go_wp2_with fail
    refine (i2I_copy _ f r ms mt HR _ HX.out).mono ?_
    rintro e w15 ⟨ah, ch, bh, dh, rfl, hvh, huh, _, hb⟩
    have HB15 : Hid (Below w.heap.size w w15) := Lib.hid (HB14.out.trans (hb.mono HB14.out.size))
    have HV15 := Lib.hid (HV14.out.below hb)
    have HW15 := Lib.hid (HW14.out.below hb)
    have HG15 := Lib.hid (HG14.out.below hb)
    have HK15 := Lib.hid (HK14.out.below hb)
    have HH15 := Lib.hid hvh
    have HI15 := Lib.hid huh
    clear hb hvh huh HV14 HW14 HG14 HK14 HX
    go_wp2_with fail
    refine (eqI_mix _ _ ms _ _ _ _ HH15.out HV15.out).mono ?_
    rintro e w16 ⟨rfl, hb⟩
    have HB16 : Hid (Below w.heap.size w w16) := Lib.hid (HB15.out.trans (hb.mono HB15.out.size))
    have HW16 := Lib.hid (HW15.out.below hb)
    have HG16 := Lib.hid (HG15.out.below hb)
    have HK16 := Lib.hid (HK15.out.below hb)
    have HI16 := Lib.hid (HI15.out.below hb)
    clear hb HV15 HW15 HG15 HK15 HH15 HI15
    go_wp2_with fail
    refine (eqI_mix _ _ mt _ _ _ _ HI16.out HW16.out).mono ?_
    rintro e w17 ⟨rfl, hb⟩
    have HB17 : Hid (Below w.heap.size w w17) := Lib.hid (HB16.out.trans (hb.mono HB16.out.size))
    have HG17 := Lib.hid (HG16.out.below hb)
    have HK17 := Lib.hid (HK16.out.below hb)
    clear hb HW16 HG16 HK16 HI16
    go_wp2_with fail
    refine (heldI_own _ 1 ms.length _ _ HG17.out (by omega) (by omega)).mono ?_
    rintro e w18 ⟨rfl, rfl⟩
    go_wp2_with fail
    refine (heldI_own _ (1 + (ms.length : Int)) mt.length _ _ HK17.out (by omega) (by omega)).mono ?_
    rintro e w18 ⟨rfl, rfl⟩
    go_wp2_with fail
    go_ret
    exact ⟨rfl, HB17.out⟩

end Go.Proofs.Ytjllpcnbahdmhaa
