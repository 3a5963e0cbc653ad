/- The model's PartAt. -/
import Derived.Test.YtlhpkoaegldjdaaFmRootN
import Derived.Test.YtlhpkoaegldjdaaFmPart
import Derived.Test.YtlhpkoaegldjdaaFmPartT
namespace Go.Proofs.Ytlhpkoaegldjdaa
open Go.RowKit
set_option linter.unusedVariables false
set_option linter.unusedSimpArgs false

theorem goodS_resP (v : Value) (f : List Nz) (r : Bool) (hr : Hid (goodB f = r)) (w : World) (lo hi : Nat) (hh : hi ≤ w.heap.size) (hv : NodesZ w lo hi v f) :
    Calls Try.prog 61 #[.agg #[v]] w fun e w' => e = .returned (.bool r) ∧ Below w.heap.size w w' := by
  rw [← hr.out]
  exact goodS_calls v f w lo hi hh hv

theorem part_fo (f : List Nz) (h : goodB f = true) (i : Nat) (hi : i < f.length) : (fo (bkF f) ((addF [] (f.map downN)).2.getD i 0) (bOf (bkF f) ((addF [] (f.map downN)).2.getD i 0) + 1)).2 = partI (f.map downN) i := by
  obtain ⟨hf1, hf2, hr, _⟩ := (goodB_iff f).1 h
  have e1 : (f.map downN).length = f.length := by simp
  exact part_eq (f.map downN) hf2.up.2 hr.rising i (by rw [e1]; exact hi)

theorem at_lt (f : List Nz) (hs : StructZ f) (i : Nat) (hi : i < f.length) : (addF [] (f.map downN)).2.getD i 0 < (bkF f).length := by
  have ha := bkF_added f hs
  obtain ⟨nl, hnl⟩ := lt_get (l := f.map downN) (i := i) (by simpa using hi)
  exact get_lt (ha.node _ nl hnl)

set_option maxHeartbeats 1000000 in
theorem l3Part_calls (va : Value) (f : List Nz) (i : Nat) (w : World) (lo hi : Nat) (hh : hi ≤ w.heap.size) (hva : NodesZ w lo hi va f) (h : goodB f = true) (hi' : i < f.length) :
    Calls Try.prog 69 #[.agg #[va], .int .i64 (i : Int)] w fun e w' => ∃ v, e = .returned (.agg #[v]) ∧ NodesZ w' w.heap.size w'.heap.size v ((partI (f.map downN) i).map upN) ∧ Below w.heap.size w w' := by
  obtain ⟨hf1, hf2, _⟩ := (goodB_iff f).1 h
  have hup := hf2.up
  have e1 : (f.map downN).length = f.length := by simp
  have hl2 := hf1.2.1
  have HPF := Lib.hid (part_fo f h i hi')
  obtain ⟨y, hy⟩ : ∃ y, (addF [] (f.map downN)).2.getD i 0 = y := ⟨_, rfl⟩
  have hyl : y < (bkF f).length := by rw [← hy]; exact at_lt f hf2 i hi'
  have hbl := bkF_len f
  have hal := (addF_len [] (f.map downN)).1
  obtain ⟨z, hz⟩ := lt_get (l := (addF [] (f.map downN)).2) (i := i) (by omega)
  have hzy : z = y := by rw [← hy, List.getD_eq_getElem?_getD, hz]; rfl
  subst hzy
  rw [hy] at HPF
  have HZ := Lib.hid hz
  have hbk := (bkF_added f hf2).book
  have e0 : ((w.alloc (.cells #[va] 26)).alloc (.cells #[.slice none 0 0] 26)).heap.size = w.heap.size + 2 := by simp
  have hbx : Below w.heap.size w (((w.alloc (.cells #[va] 26)).alloc (.cells #[.slice none 0 0] 26)).alloc (.cells #[.slice none 0 0, .slice none 0 0] 87)) := (((Below.refl _ _).alloc (Nat.le_refl _) _).alloc (by simp) _).alloc (by simp; omega) _
  have hrb : BoxAt (((w.alloc (.cells #[va] 26)).alloc (.cells #[.slice none 0 0] 26)).alloc (.cells #[.slice none 0 0, .slice none 0 0] 87)) (w.heap.size + 1) (.slice none 0 0) := ⟨by go_simp, by go_simp⟩
  have HBX := Lib.hid hbx
  have hnil := bk_nil ((w.alloc (.cells #[va] 26)).alloc (.cells #[.slice none 0 0] 26))
  rw [e0] at hnil
  have CA := Lib.hid (add_calls (w.heap.size + 2) (w.heap.size + 2) [] (.slice none 0 0) (.slice none 0 0) [] va (f.map downN) _ lo hi (by omega) hnil book_nil (by rw [hup.1]; exact hva.below hbx hh) hup.2.under (by simp; omega) (downN_small hf1))
  have hBK := Lib.hid hbk
  clear hy hz h hnil hbx hva hbk hup hf1 hf2
  go_enter Try.func69, Try.ntmps69
  go_wp2_with fail
  refine CA.out.mono ?_
  rintro e w4 ⟨g, c, vn, vb, vs, rfl, hi4, hK4, ho4, _⟩
  have HB4 : Hid (Below w.heap.size w w4) := Lib.hid (HBX.out.trans (ho4.below (by simp; omega) (fun g hg => by
    rcases hg with rfl | hg | hg
    · omega
    · simp [Value.ownBlock] at hg
    · simp [Value.ownBlock] at hg)))
  have hr4 : BoxAt w4 (w.heap.size + 1) (.slice none 0 0) := hrb.only ho4 (fun hg => by
    rcases hg with hg | hg | hg
    · omega
    · simp [Value.ownBlock] at hg
    · simp [Value.ownBlock] at hg)
  rw [e1] at hi4 ⊢
  obtain ⟨bb, oo, hao, _, hcell⟩ := ints_atP (n := f.length) (c := c) hi4 HZ.out
  injection hao with hao
  injection hao with h1 h2
  subst h1 h2
  rw [Nat.zero_add] at hcell
  have CF := Lib.hid (form_calls (w.heap.size + 2) (w.heap.size + 2) (bkF f) vn vb vs (fun _ => False) z w4 hK4 hBK.out hyl (by omega))
  rw [HPF.out] at CF
  obtain ⟨G, hG⟩ : ∃ G, (partI (f.map downN) i).map upN = G := ⟨_, rfl⟩
  rw [hG] at CF
  have HGG := Lib.hid hG
  clear hG
  have i0 : (0 : Int) ≤ i := by omega
  have i1 : (i : Int) < f.length := by omega
  clear hi4 hK4 ho4 CA
  go_wp2_with fail
  refine CF.out.mono ?_
  rintro e w5 ⟨v, rfl, hn5, hb5⟩
  obtain ⟨d5, z5⟩ := hr4.below hb5
  have hlt := block_of_cell hr4.1
  have HB5 : Hid (Below w.heap.size w (w5.setCell ⟨w.heap.size + 1, 0, none⟩ v)) := Lib.hid ((HB4.out.trans (hb5.mono HB4.out.size)).setCell (by show w.heap.size ≤ w.heap.size + 1; omega) _)
  have HN : Hid (NodesZ (w5.setCell ⟨w.heap.size + 1, 0, none⟩ v) w.heap.size (w5.setCell ⟨w.heap.size + 1, 0, none⟩ v).heap.size v G) := Lib.hid ((NodesZ.keep hn5 (fun b o h1 h2 => World.cell?_setCell_other _ _ _ _ (fun e => by injection e with e _ _; omega))).wide HB4.out.size (by simp))
  have hcr := World.cell?_setCell_same w5 ⟨w.heap.size + 1, 0, none⟩ v d5
  obtain ⟨av, cv, rfl, _⟩ := (show ∃ a c, v = .slice a G.length c ∧ True from by obtain ⟨a, c, e, _⟩ := hn5; exact ⟨a, c, e, trivial⟩)
  clear hn5 hb5 CF hr4 hrb
  go_wp2_with fail
  refine bodyPost_ret (v := .agg #[.slice av G.length cv]) (by simp [results, Try.results69, go_sem, hcr]) rfl ?_
  rw [HGG.out]
  exact ⟨_, rfl, HN.out, HB5.out⟩

/-- as the program's -/
theorem partAtS_calls (va : Value) (f g : List Nz) (i : Int) (ok : Bool) (hok : Hid (partB f i = ok)) (hg : Hid (partV f i = g)) (w : World) (lo hi : Nat) (hh : hi ≤ w.heap.size) (hva : NodesZ w lo hi va f) :
    Calls Try.prog 31 #[.agg #[va], .int .i64 i] w fun e w' => ∃ a c, e = .returned (.tuple #[.agg #[.slice a g.length c], .bool ok]) ∧ NodesZ w' w.heap.size w'.heap.size (.slice a g.length c) g ∧ Below w.heap.size w w' := by
  obtain ⟨r, hr⟩ : ∃ r, goodB f = r := ⟨_, rfl⟩
  have HB0 := Lib.hid fun o o' => show Below w.heap.size w ((w.alloc o).alloc o') from ((Below.refl _ _).alloc (Nat.le_refl _) _).alloc (by simp) _
  have CG := Lib.hid fun (W : World) (hW : Below w.heap.size w W) => goodS_resP va f r (Lib.hid hr) W lo hi (Nat.le_trans hh hW.size) (hva.below hW hh)
  have HVA := Lib.hid fun (W : World) (hW : Below w.heap.size w W) => hva.below hW hh
  obtain ⟨ao, c0, rfl⟩ : ∃ ao c, va = .slice ao f.length c := by obtain ⟨ao, c, e, _⟩ := hva; exact ⟨ao, c, e⟩
  have HRR := Lib.hid hr
  clear hva hr
  go_enter Try.func31, Try.ntmps31
  go_wp2_with fail
  refine (CG.out _ (HB0.out _ _)).mono ?_
  rintro e w4 ⟨rfl, hb4⟩
  have k0 : w4.cell? ⟨w.heap.size, 0, none⟩ = some (.slice ao f.length c0) := (bcell hb4 _ _ (by simp; omega)).trans (by go_simp)
  obtain ⟨d0, z0⟩ : BoxAt w4 (w.heap.size + 1) (.slice none 0 0) := BoxAt.below ⟨by go_simp, by go_simp⟩ hb4
  have HB4 := Lib.hid (Below.trans (HB0.out _ _) (hb4.mono (by simp; omega)))
  have HB4s : Hid (Below w.heap.size w (w4.setCell ⟨w.heap.size + 1, 0, none⟩ (.slice none 0 0))) := Lib.hid (HB4.out.setCell (by show w.heap.size ≤ w.heap.size + 1; omega) _)
  have hcr := World.cell?_setCell_same w4 ⟨w.heap.size + 1, 0, none⟩ (.slice none 0 0) d0
  clear hb4 CG
  have HNO : Hid (ok = false → g = []) := Lib.hid (fun h => by rw [← hg.out, partV_no (by rw [hok.out]; exact h)])
  have HF0 : ∀ W lo hi, NodesZ W lo hi (.slice none ([] : List Nz).length 0) [] := fun W lo hi => ⟨none, 0, rfl, by simp, fun j nd hj => by simp at hj⟩
  cases r with
  | false =>
    obtain rfl : ok = false := by rw [← hok.out]; unfold partB; rw [HRR.out]; rfl
    obtain rfl : g = [] := HNO.out rfl
    go_wp2_with fail
    exact bodyPost_ret (v := .tuple #[.agg #[.slice none 0 0], .bool false]) (by simp [results, Try.results31, go_sem, hcr]) rfl ⟨none, 0, rfl, HF0 _ _ _, HB4s.out⟩
  | true =>
    obtain ⟨hf1, hf2, _⟩ := (goodB_iff f).1 HRR.out
    have l0 := hf1.1
    have l1 := hf1.2.1
    have hn1 : IntKind.i64.wrap ((f.length : Int) - 1) = (f.length : Int) - 1 := by rw [IntWalk.i64_in _ (by omega)]
    by_cases h1 : 0 ≤ i ∧ i ≤ (f.length : Int) - 1
    · obtain ⟨n, rfl⟩ : ∃ n : Nat, i = (n : Int) := ⟨i.toNat, by omega⟩
      have hnl : n < f.length := by omega
      have hpb := partB_good HRR.out n hnl
      obtain rfl : ok = true := by rw [← hok.out]; exact hpb
      have hgv : (partI (f.map downN) n).map upN = g := by rw [← hg.out, partV_yes hpb]
      have C := Lib.hid fun (W : World) (hW : Below w.heap.size w W) => l3Part_calls (.slice ao f.length c0) f n W lo hi (Nat.le_trans hh hW.size) (HVA.out W hW) HRR.out hnl
      rw [hgv] at C
      have CI := Lib.hid (inS_true (n : Int) 0 ((f.length : Int) - 1) w4 h1.1 h1.2)
      clear hf1 hf2 hgv hpb HRR HNO hok hg
      go_wp2_with fail
      refine CI.out.mono ?_
      rintro e w5 ⟨rfl, rfl⟩
      go_wp2_with fail
      refine (C.out _ HB4.out).mono ?_
      rintro e w6 ⟨v, rfl, hn6, hb6⟩
      obtain ⟨a, c, rfl, _⟩ := (show ∃ a c, v = .slice a g.length c ∧ True from by obtain ⟨a, c, e, _⟩ := hn6; exact ⟨a, c, e, trivial⟩)
      obtain ⟨d6, z6⟩ : BoxAt w6 (w.heap.size + 1) (.slice none 0 0) := BoxAt.below ⟨d0, z0⟩ hb6
      have hlt := block_of_cell d0
      have HN : Hid (NodesZ (w6.setCell ⟨w.heap.size + 1, 0, none⟩ (.slice a g.length c)) w.heap.size (w6.setCell ⟨w.heap.size + 1, 0, none⟩ (.slice a g.length c)).heap.size (.slice a g.length c) g) := Lib.hid ((NodesZ.keep hn6 (fun b o h1 h2 => World.cell?_setCell_other _ _ _ _ (fun e => by injection e with e _ _; omega))).wide HB4.out.size (by simp))
      have HB6 : Hid (Below w.heap.size w (w6.setCell ⟨w.heap.size + 1, 0, none⟩ (.slice a g.length c))) := Lib.hid ((HB4.out.trans (hb6.mono HB4.out.size)).setCell (by show w.heap.size ≤ w.heap.size + 1; omega) _)
      have hcr6 := World.cell?_setCell_same w6 ⟨w.heap.size + 1, 0, none⟩ (.slice a g.length c) d6
      clear hn6 hb6 C CI hcr d0 z0 hlt
      go_wp2_with fail
      exact bodyPost_ret (v := .tuple #[.agg #[.slice a g.length c], .bool true]) (by simp [results, Try.results31, go_sem, hcr6]) rfl ⟨a, c, rfl, HN.out, HB6.out⟩
    · obtain rfl : ok = false := by
        rw [← hok.out]
        unfold partB
        rw [HRR.out]
        by_cases h2 : 0 ≤ i
        · rw [decide_eq_false (show ¬ i < (f.length : Int) by omega)]; simp
        · rw [decide_eq_false h2]; rfl
      obtain rfl : g = [] := HNO.out rfl
      have CI := Lib.hid (inS_false i 0 ((f.length : Int) - 1) w4 (by omega))
      go_wp2_with fail
      refine CI.out.mono ?_
      rintro e w5 ⟨rfl, rfl⟩
      go_wp2_with fail
      exact bodyPost_ret (v := .tuple #[.agg #[.slice none 0 0], .bool false]) (by simp [results, Try.results31, go_sem, hcr]) rfl ⟨none, 0, rfl, HF0 _ _ _, HB4s.out⟩

end Go.Proofs.Ytlhpkoaegldjdaa
