/- The walk of laws.FnExactOptionsOf. -/
import Derived.Test.YtlhpkoaegldjdaaFmLaw
import Derived.Test.YtlhpkoaegldjdaaFmToOwn
import Derived.Test.YtlhpkoaegldjdaaFmForms
import Derived.Test.YtlhpkoaegldjdaaFmOptT
import Derived.Test.YtlhpkoaegldjdaaFmOptS
namespace Go.Proofs.Ytlhpkoaegldjdaa
open Go.RowKit
set_option linter.unusedVariables false
set_option linter.unusedSimpArgs false

theorem optI_copy (v : Value) (f : List Nz) (G1 G2 : List (List Nz)) (r : Bool) (hr : Hid (goodB f = r)) (h1 : Hid (optV f true = G1)) (h2 : Hid (optV f false = G2)) (w : World) (h : CopyOf w v f) :
    Calls Try.prog 27 #[.agg #[v]] w fun e w' => ∃ (g1 g2 N : Nat) (p1 p2 : List (Value × List (Value × Value))), e = .returned (.tuple #[.slice (some ⟨g1, 0, none⟩) G1.length G1.length, .slice (some ⟨g2, 0, none⟩) G2.length G2.length, .bool r]) ∧
      OwnFS w' w.heap.size (.slice (some ⟨g1, 0, none⟩) G1.length G1.length) p1 G1 ∧ OwnFS w' w.heap.size (.slice (some ⟨g2, 0, none⟩) G2.length G2.length) p2 G2 ∧
      (∀ b, AllFS (.slice (some ⟨g1, 0, none⟩) G1.length G1.length) p1 b → b < N) ∧ (∀ b, AllFS (.slice (some ⟨g2, 0, none⟩) G2.length G2.length) p2 b → N ≤ b) ∧ Below w.heap.size w w' := by
  obtain ⟨lo, hi, hh, h⟩ := h
  exact optionsI_calls v f G1 G2 r hr h1 h2 w lo hi hh h
theorem optM_copy (v : Value) (f : List Nz) (G1 G2 : List (List Nz)) (r : Bool) (hr : Hid (goodB f = r)) (h1 : Hid (optV f true = G1)) (h2 : Hid (optV f false = G2)) (w : World) (h : CopyOf w v f) :
    Calls Try.prog 25 #[.agg #[v]] w fun e w' => ∃ a1 c1 a2 c2, e = .returned (.tuple #[.slice a1 G1.length c1, .slice a2 G2.length c2, .bool r]) ∧
      FormsZ w' w.heap.size w'.heap.size (.slice a1 G1.length c1) G1 ∧ FormsZ w' w.heap.size w'.heap.size (.slice a2 G2.length c2) G2 ∧ Below w.heap.size w w' := by
  obtain ⟨lo, hi, hh, h⟩ := h
  exact optionsS_calls v f G1 G2 r hr h1 h2 w lo hi hh h

theorem eqFS_own (v v' : Value) (ps : List (Value × List (Value × Value))) (Fs : List (List Nz)) (w : World) (base lo hi : Nat) (hh : hi ≤ w.heap.size) (h : OwnFS w base v ps Fs) (h' : FormsZ w lo hi v' Fs) :
    Calls Try.prog 20 #[v, v'] w fun e w' => e = .returned (.bool true) ∧ Below w.heap.size w w' := eqFormS_same v v' Fs w base w.heap.size lo hi (Nat.le_refl _) hh h.formsZ h'

theorem heldFS_own (v : Value) (ps : List (Value × List (Value × Value))) (Fs : List (List Nz)) (k : Int) (w : World) (base : Nat) (h : OwnFS w base v ps (markFS Fs k).1) (h0 : 0 ≤ k) (h1 : (markFS Fs k).2 ≤ 1000000000) :
    Calls Try.prog 28 #[v, .int .i64 k] w fun e w' => e = .returned (.int .i64 (markFS Fs k).2) ∧ w' = w := heldFS_calls v Fs k w base w.heap.size h.formsZ h0 h1

theorem sum_map_le {α : Type} (L : List α) (g : α → Nat) (B : Nat) (h : ∀ x ∈ L, g x ≤ B) : (L.map g).sum ≤ B * L.length := by
  induction L with
  | nil => simp
  | cons x L ih =>
    have h0 := h x (List.mem_cons_self ..)
    have ih' := ih (fun y hy => h y (List.mem_cons_of_mem _ hy))
    simp only [List.map_cons, List.sum_cons, List.length_cons, Nat.mul_add, Nat.mul_one]
    omega

theorem optV_sz (f : List Nz) (l : Bool) : szFS (optV f l) ≤ 138240 := by
  unfold optV
  split
  · rename_i hg
    obtain ⟨hf1, _⟩ := (goodB_iff f).1 hg
    have h2 := hf1.2.1
    have hs := lastN_small hg
    have hx : ∀ x ∈ (if l then (lastN f).1 else (lastN f).2), (((partI (f.map downN) x).map upN).map szN).sum ≤ 5760 := fun x hx => by
      have hxl : x < f.length := lastN_lt hg x (by
        cases l
        · exact Or.inr hx
        · exact Or.inl hx)
      unfold partI
      have h3 := sum_szN_le _ (partN_small (f.map downN) (fun k => (reachF (f.map downN) x).getD k false) x (fun nd hnd => by
        obtain ⟨y, hy, rfl⟩ := List.mem_map.1 hnd
        have := hf1.2.2 y hy
        simpa [downN, downL] using this) (x + 1))
      have h4 := partN_llen (f.map downN) (fun k => (reachF (f.map downN) x).getD k false) x (x + 1)
      omega
    have hl : (if l then (lastN f).1 else (lastN f).2).length ≤ 24 := by
      cases l
      · exact hs.2
      · exact hs.1
    unfold szFS partsF
    rw [List.map_map]
    have h5 := sum_map_le (if l then (lastN f).1 else (lastN f).2) (fun x => (((partI (f.map downN) x).map upN).map szN).sum) 5760 hx
    exact Nat.le_trans h5 (by omega)
  · simp [szFS]

theorem toForm_ownC (v : Value) (f : List Nz) (w : World) (hv : CopyOf w v f) (hl : szNs f ≤ 1048576) :
    Calls Try.prog 26 #[.agg #[v]] w fun e w' => ∃ g vs, e = .returned (.agg #[.slice (some ⟨g, 0, none⟩) f.length f.length]) ∧ OwnF w' w.heap.size (.slice (some ⟨g, 0, none⟩) f.length f.length) vs f ∧ Below w.heap.size w w' := by
  obtain ⟨lo, hi, hh, h⟩ := hv
  exact toForm_own v f w lo hi hh h hl

theorem OwnF.copy {w : World} {base : Nat} {v : Value} {vs : List (Value × Value)} {f : List Nz} (h : OwnF w base v vs f) : CopyOf w v f := ⟨_, _, Nat.le_refl _, h.nodesZ⟩

theorem markF_sz (f : List Nz) (k : Int) : (markF f k).2 ≤ k + (szNs f : Int) := by
  rw [markF_end]
  unfold szNs
  omega

/-- a form read far from what is written -/
theorem NodesZ.only {w w' : World} {lo hi : Nat} {v : Value} {f : List Nz} {F : Nat → Prop} (h : NodesZ w lo hi v f) (hh : hi ≤ w.heap.size) (ho : Only w w' F) (hn : ∀ b, lo ≤ b → b < hi → ¬ F b) : NodesZ w' lo hi v f := h.keep (fun b o h1 h2 => ho.cell (by omega) (hn b h1 h2))

set_option maxRecDepth 100000 in
set_option maxHeartbeats 8000000 in
theorem fnExactOptionsOf_walk (u : Value) (f : List Nz) (w : World) (hu : CopyOf w u f) :
    Calls Try.prog 4 #[.agg #[u]] w fun e w' => e = .returned (.bool true) ∧ Below w.heap.size w w' := by
  have HU := Lib.hid fun W (hW : Below w.heap.size w W) => hu.below hW
  have CZ := Lib.hid fun W (hW : Below w.heap.size w W) => szForm_copy u f W 1048576 (by omega) (by omega) (hu.below hW)
  clear hu
  have HS : Hid (0 ≤ leftOf 1048576 (szNs f) → szNs f ≤ 1048576) := Lib.hid (fun h => by have := leftOf_neg 1048576 (szNs f) (by omega); omega)
  generalize leftOf 1048576 (szNs f) = m1 at CZ HS
  have HB0 : Hid (Below w.heap.size w (w.alloc (.cells #[u] 38))) := Lib.hid ((Below.refl _ _).alloc (Nat.le_refl _) _)
  go_enter Try.func4, Try.ntmps4
  go_wp2_with fail
  refine (CZ.out _ HB0.out).mono ?_
  rintro e w1 ⟨rfl, hb⟩
  have k1 : w1.cell? ⟨w.heap.size, 0, none⟩ = some u := (bcell hb _ _ (by simp)).trans (by go_simp)
  have HB1 : Hid (Below w.heap.size w w1) := Lib.hid (HB0.out.trans (hb.mono (by simp)))
  clear hb
  by_cases hn : m1 < 0
  · go_wp2_with fail
    go_ret
    exact ⟨rfl, HB1.out⟩
  have hm0 : 0 ≤ m1 := by omega
  have hf : Hid (szNs f ≤ 1048576) := Lib.hid (HS.out hm0)
  have CT := Lib.hid fun W (hW : Below w.heap.size w W) => toForm_copy u f W (HU.out W hW) hf.out
  have CTO := Lib.hid fun W (hW : Below w.heap.size w W) => toForm_ownC u f W (HU.out W hW) hf.out
  clear HS CZ
  obtain ⟨r, hr⟩ : ∃ r, goodB f = r := ⟨_, rfl⟩
  obtain ⟨G1, hG1⟩ : ∃ n : List (List Nz), optV f true = n := ⟨_, rfl⟩
  obtain ⟨G2, hG2⟩ : ∃ n : List (List Nz), optV f false = n := ⟨_, rfl⟩
  have hgz1 : szFS G1 ≤ 138240 := by rw [← hG1]; exact optV_sz f true
  have hgz2 : szFS G2 ≤ 138240 := by rw [← hG2]; exact optV_sz f false
  have mg1 := markFS_end G1 1
  have mg2 := markFS_end G2 (markFS G1 1).2
  have hm1 : (1 : Int) ≤ (markFS G1 1).2 ∧ (markFS G1 1).2 ≤ 1000000 := by omega
  have hm2 : (1 : Int) ≤ (markFS G2 (markFS G1 1).2).2 ∧ (markFS G2 (markFS G1 1).2).2 ≤ 2000000 := by omega
  have HR := Lib.hid hr
  have HG1 := Lib.hid hG1
  have HG2 := Lib.hid hG2
  have HM1 := Lib.hid hm1
  have HM2 := Lib.hid hm2
  clear hr hG1 hG2 hgz1 hgz2 mg1 mg2 hm1 hm2
  have q2 : (r != r) = false := by simp
  have b1 := block_of_cell k1
  go_wp2_with fail
  refine (CT.out _ HB1.out).mono ?_
  rintro e w2 ⟨a0, n0, c0, rfl, hx0, hb⟩
  have HX := Lib.hid hx0
  have k1 := (bcell hb _ _ b1).trans k1
  have HB2 : Hid (Below w.heap.size w w2) := Lib.hid (HB1.out.trans (hb.mono HB1.out.size))
  have b1 := block_of_cell k1
  clear hb hx0 HB1
  go_wp2_with fail
  refine (optM_copy _ f G1 G2 r HR HG1 HG2 _ HX.out).mono ?_
  rintro e w3 ⟨av1, cv1, av2, cv2, rfl, hv1, hv2, hb⟩
  have V1 := Lib.hid hv1
  have V2 := Lib.hid hv2
  have k1 := (bcell hb _ _ b1).trans k1
  have HB3 : Hid (Below w.heap.size w w3) := Lib.hid (HB2.out.trans (hb.mono HB2.out.size))
  have b1 := block_of_cell k1
  clear hb HX hv1 hv2 HB2
  go_wp2_with fail
  refine (CTO.out _ HB3.out).mono ?_
  rintro e w4 ⟨gx, vs, rfl, hx, hb⟩
  have HX := Lib.hid hx
  have k1 := (bcell hb _ _ b1).trans k1
  have V1 := Lib.hid (V1.out.below hb (Nat.le_refl _))
  have V2 := Lib.hid (V2.out.below hb (Nat.le_refl _))
  have HB4 : Hid (Below w.heap.size w w4) := Lib.hid (HB3.out.trans (hb.mono HB3.out.size))
  have hz34 := hb.size
  have b1 := block_of_cell k1
  clear hb hx
  go_wp2_with fail
  have HB4' : Hid (Below w4.heap.size w4 (w4.alloc (.cells #[.slice (some ⟨gx, 0, none⟩) f.length f.length] 26))) := Lib.hid ((Below.refl _ _).alloc (Nat.le_refl _) _)
  refine (optI_copy _ f G1 G2 r HR HG1 HG2 _ (HX.out.copy.below HB4'.out)).mono ?_
  rintro e w5 ⟨g1, g2, N, ps1, ps2, rfl, ho1, ho2, hn1, hn2, hb⟩
  have k2 : w5.cell? ⟨w4.heap.size, 0, none⟩ = some (.slice (some ⟨gx, 0, none⟩) f.length f.length) := (bcell hb _ _ (by simp)).trans (by go_simp)
  have k1 : w5.cell? ⟨w.heap.size, 0, none⟩ = some u := (bcell hb _ _ (by simp; omega)).trans ((bcell HB4'.out _ _ b1).trans k1)
  have HB45 : Hid (Below w4.heap.size w4 w5) := Lib.hid (HB4'.out.trans (hb.mono (by simp)))
  have HB5 : Hid (Below w.heap.size w w5) := Lib.hid (HB4.out.trans (HB45.out.mono HB4.out.size))
  have HX5 := Lib.hid (HX.out.below HB45.out)
  have V1 := Lib.hid (V1.out.below HB45.out (by omega))
  have V2 := Lib.hid (V2.out.below HB45.out (by omega))
  have O1 := Lib.hid (ho1.mono (base' := w4.heap.size + 1) (by simp))
  have O2 := Lib.hid (ho2.mono (base' := w4.heap.size + 1) (by simp))
  have HBK : Hid (∀ b, BlkF vs b → w3.heap.size ≤ b ∧ b < w4.heap.size) := Lib.hid (fun b hb => HX.out.blk hb)
  have HA1 : Hid (∀ b, AllFS (.slice (some ⟨g1, 0, none⟩) G1.length G1.length) ps1 b → w4.heap.size + 1 ≤ b ∧ b < N) := Lib.hid (fun b hb => ⟨(O1.out.allS hb).1, hn1 b hb⟩)
  have HA2 : Hid (∀ b, AllFS (.slice (some ⟨g2, 0, none⟩) G2.length G2.length) ps2 b → w4.heap.size + 1 ≤ b ∧ N ≤ b) := Lib.hid (fun b hb => ⟨(O2.out.allS hb).1, hn2 b hb⟩)
  have hz45 := HB45.out.size
  clear hb ho1 ho2 hn1 hn2 HB4' HB45 HX
  have b1 := block_of_cell k1
  have b2 := block_of_cell k2
  go_wp2_with fail
  refine (eqFS_own _ _ _ G1 _ _ _ _ (by omega) O1.out V1.out).mono ?_
  rintro e w6 ⟨rfl, hb⟩
  have k1 := (bcell hb _ _ b1).trans k1
  have k2 := (bcell hb _ _ b2).trans k2
  have HB6 : Hid (Below w.heap.size w w6) := Lib.hid (HB5.out.trans (hb.mono HB5.out.size))
  have HX6 := Lib.hid (HX5.out.below hb)
  have V1 := Lib.hid (V1.out.below hb (by omega))
  have V2 := Lib.hid (V2.out.below hb (by omega))
  have O1 := Lib.hid (O1.out.below hb)
  have O2 := Lib.hid (O2.out.below hb)
  have hz56 := hb.size
  clear hb HX5 HB5
  have b1 := block_of_cell k1
  have b2 := block_of_cell k2
  go_wp2_with fail
  refine (eqFS_own _ _ _ G2 _ _ _ _ (by omega) O2.out V2.out).mono ?_
  rintro e w7 ⟨rfl, hb⟩
  have k1 := (bcell hb _ _ b1).trans k1
  have k2 := (bcell hb _ _ b2).trans k2
  have HB7 : Hid (Below w.heap.size w w7) := Lib.hid (HB6.out.trans (hb.mono HB6.out.size))
  have HX7 := Lib.hid (HX6.out.below hb)
  have V1 := Lib.hid (V1.out.below hb (by omega))
  have V2 := Lib.hid (V2.out.below hb (by omega))
  have O1 := Lib.hid (O1.out.below hb)
  have O2 := Lib.hid (O2.out.below hb)
  have hz67 := hb.size
  clear hb HX6 HB6
  have HXW := Lib.hid fun W (hW : Below w7.heap.size w7 W) => HX7.out.copy.below hW
  have HBW7 := Lib.hid fun W (hW : Below w7.heap.size w7 W) => HB7.out.trans (hW.mono HB7.out.size)
  have b1 := block_of_cell k1
  have b2 := block_of_cell k2
  have hS0 := twoL_start k1 k2
  go_upto_region 3 with fail
  go_cut [56] (fun s56 wx => s56 = .bool false ∧ TwoL w7 w.heap.size w4.heap.size u (.slice (some ⟨gx, 0, none⟩) f.length f.length) wx)
  case first =>
    go_region_held3 (fun w' : World => w'.cell? ⟨w.heap.size, 0, none⟩ = some u ∧ w'.cell? ⟨w4.heap.size, 0, none⟩ = some (.slice (some ⟨gx, 0, none⟩) f.length f.length) ∧ Below w7.heap.size w7 w') (first | exact hS0 | (go_split_ands; exact ⟨‹_›, ‹_›, ‹_›⟩) | (go_split_ands; exact twoL_next b1 b2 hbc ⟨‹_›, ‹_›, ‹_›⟩) | (go_split_ands; exact twoL_next b1 b2 hba ⟨‹_›, ‹_›, ‹_›⟩)) (first | (go_at_call 19; go_split_ands; refine (eqForm_copy _ _ _ _ (CopyOf.below (HXW.out _ (by assumption)) hba) (by assumption)).mono ?_; rintro e wc ⟨rfl, hbc⟩) | (go_at_call 26; go_split_ands; (with_reducible refine (CT.out _ (HBW7.out _ (by assumption))).mono ?_); rintro e wa ⟨a3, n3, c3, rfl, hx1, hba⟩))
    all_goals
      rename_i hH
      go_wp2_with fail
      go_meet
      exact ⟨rfl, hH⟩
  case rest =>
    obtain ⟨rfl, hT⟩ := hcut
    obtain ⟨k1, k2, hbw⟩ := hT
    have b1 := block_of_cell k1
    have HB8 := Lib.hid (HBW7.out _ hbw)
    have HX8 := Lib.hid (HX7.out.below hbw)
    have V1 := Lib.hid (V1.out.below hbw (by omega))
    have V2 := Lib.hid (V2.out.below hbw (by omega))
    have O1 := Lib.hid (O1.out.below hbw)
    have O2 := Lib.hid (O2.out.below hbw)
    have hz78 := hbw.size
    have hz3 := HB3.out.size
    have mk1 := markF_sz f 1
    have mk2 := hf.out
    have mk3 := (markF_le f 1 0)
    have mk4 : (1 : Int) ≤ (markF f 1).2 := by omega
    have mk5 : (markF f 1).2 ≤ 1000000000 := by omega
    have CM := Lib.hid (markForm_calls _ vs f 1 _ w3.heap.size HX8.out (by omega) mk5)
    clear hbw hS0 HBW7 HX7 HXW mk1 mk2 mk3 HB7
    generalize (markF f 1).2 = km at CM mk4 mk5
    go_wp2_with fail
    refine CM.out.mono ?_
    rintro e w9 ⟨rfl, ho⟩
    have HB9 := Lib.hid (HB8.out.trans (ho.below HB8.out.size (fun g h => by have := HBK.out g h; omega)))
    have k1 := (ho.cell (o := 0) b1 (fun h => by have := HBK.out _ h; have := block_of_cell k1; omega)).trans k1
    have V1 := Lib.hid (V1.out.only (by omega) ho (fun b h1 h2 h3 => by have := HBK.out b h3; omega))
    have V2 := Lib.hid (V2.out.only (by omega) ho (fun b h1 h2 h3 => by have := HBK.out b h3; omega))
    have O1 := Lib.hid (O1.out.only ho (fun b h1 h3 => by have := HBK.out b h3; have := HA1.out b h1; omega))
    have O2 := Lib.hid (O2.out.only ho (fun b h1 h3 => by have := HBK.out b h3; have := HA2.out b h1; omega))
    have hz89 := ho.size
    have b1 := block_of_cell k1
    clear ho CM HX8 k2 b2 HB8
    go_wp2_with fail
    refine (eqFS_own _ _ _ G1 _ _ _ _ (by omega) O1.out V1.out).mono ?_
    rintro e w10 ⟨rfl, hb⟩
    have k1 := (bcell hb _ _ b1).trans k1
    have HB10 : Hid (Below w.heap.size w w10) := Lib.hid (HB9.out.trans (hb.mono HB9.out.size))
    have V1 := Lib.hid (V1.out.below hb (by omega))
    have V2 := Lib.hid (V2.out.below hb (by omega))
    have O1 := Lib.hid (O1.out.below hb)
    have O2 := Lib.hid (O2.out.below hb)
    have hz910 := hb.size
    clear hb HB9
    have b1 := block_of_cell k1
    go_wp2_with fail
    refine (eqFS_own _ _ _ G2 _ _ _ _ (by omega) O2.out V2.out).mono ?_
    rintro e w11 ⟨rfl, hb⟩
    have k1 := (bcell hb _ _ b1).trans k1
    have HB11 : Hid (Below w.heap.size w w11) := Lib.hid (HB10.out.trans (hb.mono HB10.out.size))
    have V1 := Lib.hid (V1.out.below hb (by omega))
    have V2 := Lib.hid (V2.out.below hb (by omega))
    have O1 := Lib.hid (O1.out.below hb)
    have O2 := Lib.hid (O2.out.below hb)
    have hz1011 := hb.size
    clear hb HB10
    have b1 := block_of_cell k1
    have CM1 := Lib.hid (markFS_calls _ ps1 G1 1 _ _ O1.out (by omega) (by have := HM1.out; omega))
    have CM2 := Lib.hid fun W (h : OwnFS W (w4.heap.size + 1) (.slice (some ⟨g2, 0, none⟩) G2.length G2.length) ps2 G2) => markFS_calls _ ps2 G2 (markFS G1 1).2 W _ h (by have := HM1.out; omega) (by have := HM2.out; omega)
    have CH1 := Lib.hid fun W (h : OwnFS W (w4.heap.size + 1) (.slice (some ⟨g1, 0, none⟩) G1.length G1.length) ps1 (markFS G1 1).1) => heldFS_own _ ps1 G1 1 W _ h (by omega) (by have := HM1.out; omega)
    have CH2 := Lib.hid fun W (h : OwnFS W (w4.heap.size + 1) (.slice (some ⟨g2, 0, none⟩) G2.length G2.length) ps2 (markFS G2 (markFS G1 1).2).1) => heldFS_own _ ps2 G2 (markFS G1 1).2 W _ h (by have := HM1.out; omega) (by have := HM2.out; omega)
    have n1 : ¬ (markFS G1 1).2 < 0 := by have := HM1.out; omega
    have n2 : ¬ (markFS G2 (markFS G1 1).2).2 < 0 := by have := HM2.out; omega
    generalize (markFS G2 (markFS G1 1).2).2 = m2 at CM2 CH2 n2 HM2
    generalize (markFS G2 (markFS G1 1).2).1 = H2 at CM2 CH2
    generalize (markFS G1 1).2 = m1' at CM1 CM2 CH1 CH2 n1 HM1
    generalize (markFS G1 1).1 = H1 at CM1 CH1
    clear HM1 HM2
    go_wp2_with fail
    refine CM1.out.mono ?_
    rintro e w12 ⟨rfl, o12, ho⟩
    have HB12 := Lib.hid (HB11.out.trans (ho.below HB11.out.size (fun g h => by have := HA1.out g h.all; have := HB4.out.size; omega)))
    have k1 := (ho.cell (o := 0) b1 (fun h => by have := HA1.out _ h.all; have := HB4.out.size; omega)).trans k1
    have V1 := Lib.hid (V1.out.only (by omega) ho (fun b h1 h2 h3 => by have := HA1.out b h3.all; omega))
    have V2 := Lib.hid (V2.out.only (by omega) ho (fun b h1 h2 h3 => by have := HA1.out b h3.all; omega))
    have O2 := Lib.hid (O2.out.only ho (fun b h1 h3 => by have := HA1.out b h3.all; have := HA2.out b h1; omega))
    have O1 := Lib.hid o12
    have hz1112 := ho.size
    have b1 := block_of_cell k1
    have CM3 := Lib.hid (CM2.out w12 O2.out)
    clear ho o12 CM1 CM2 O2 HB11
    go_wp2_with fail
    refine CM3.out.mono ?_
    rintro e w13 ⟨rfl, o13, ho⟩
    have HB13 := Lib.hid (HB12.out.trans (ho.below HB12.out.size (fun g h => by have := HA2.out g h.all; have := HB4.out.size; omega)))
    have k1 := (ho.cell (o := 0) b1 (fun h => by have := HA2.out _ h.all; have := HB4.out.size; omega)).trans k1
    have V1 := Lib.hid (V1.out.only (by omega) ho (fun b h1 h2 h3 => by have := HA2.out b h3.all; omega))
    have V2 := Lib.hid (V2.out.only (by omega) ho (fun b h1 h2 h3 => by have := HA2.out b h3.all; omega))
    have O1 := Lib.hid (O1.out.only ho (fun b h1 h3 => by have := HA1.out b h1; have := HA2.out b h3.all; omega))
    have O2 := Lib.hid o13
    have hz1213 := ho.size
    have CA := Lib.hid (CH1.out w13 O1.out)
    have CB := Lib.hid (CH2.out w13 O2.out)
    clear ho o13 CM3 HB12
    go_wp2_with fail
    refine CA.out.mono ?_
    rintro e w13' ⟨rfl, rfl⟩
    go_wp2_with fail
    refine CB.out.mono ?_
    rintro e w13'' ⟨rfl, rfl⟩
    clear CA CB
    go_wp2_with fail
    refine (CT.out _ HB13.out).mono ?_
    rintro e w14 ⟨a5, n5, c5, rfl, hx5, hb⟩
    have HX := Lib.hid hx5
    have HB14 : Hid (Below w.heap.size w w14) := Lib.hid (HB13.out.trans (hb.mono HB13.out.size))
    have V1 := Lib.hid (V1.out.below hb (by omega))
    have V2 := Lib.hid (V2.out.below hb (by omega))
    have O1 := Lib.hid (O1.out.below hb)
    have O2 := Lib.hid (O2.out.below hb)
    have hz1314 := hb.size
    clear hb hx5 HB13 k1 b1
    go_wp2_with fail
    refine (optI_copy _ f G1 G2 r HR HG1 HG2 _ HX.out).mono ?_
    rintro e w15 ⟨y1, y2, N', qs1, qs2, rfl, hy1, hy2, _, _, hb⟩
    have Y1 := Lib.hid hy1
    have Y2 := Lib.hid hy2
    have HB15 : Hid (Below w.heap.size w w15) := Lib.hid (HB14.out.trans (hb.mono HB14.out.size))
    have V1 := Lib.hid (V1.out.below hb (by omega))
    have V2 := Lib.hid (V2.out.below hb (by omega))
    have O1 := Lib.hid (O1.out.below hb)
    have O2 := Lib.hid (O2.out.below hb)
    have hz1415 := hb.size
    clear hb hy1 hy2 HX HB14
    go_wp2_with fail
    refine (eqFS_own _ _ _ G1 _ _ _ _ (by omega) Y1.out V1.out).mono ?_
    rintro e w16 ⟨rfl, hb⟩
    have HB16 : Hid (Below w.heap.size w w16) := Lib.hid (HB15.out.trans (hb.mono HB15.out.size))
    have V2 := Lib.hid (V2.out.below hb (by omega))
    have O1 := Lib.hid (O1.out.below hb)
    have O2 := Lib.hid (O2.out.below hb)
    have Y2 := Lib.hid (Y2.out.below hb)
    have hz1516 := hb.size
    clear hb HB15 Y1 V1
    go_wp2_with fail
    refine (eqFS_own _ _ _ G2 _ _ _ _ (by omega) Y2.out V2.out).mono ?_
    rintro e w17 ⟨rfl, hb⟩
    have HB17 : Hid (Below w.heap.size w w17) := Lib.hid (HB16.out.trans (hb.mono HB16.out.size))
    have O1 := Lib.hid (O1.out.below hb)
    have O2 := Lib.hid (O2.out.below hb)
    have CA := Lib.hid (CH1.out w17 O1.out)
    have CB := Lib.hid (CH2.out w17 O2.out)
    clear hb HB16 Y2 V2 CH1 CH2
    go_wp2_with fail
    refine CA.out.mono ?_
    rintro e w17' ⟨rfl, rfl⟩
    go_wp2_with fail
    refine CB.out.mono ?_
    rintro e w17'' ⟨rfl, rfl⟩
    go_wp2_with fail
    go_ret
    exact ⟨rfl, HB17.out⟩

end Go.Proofs.Ytlhpkoaegldjdaa
