/- impl.inOrder puts nodes into order. -/
import Derived.Test.YtanjanckkgbnbaaInSort
import Derived.Test.YtanjanckkgbnbaaInOf
namespace Go.Proofs.Ytanjanckkgbnbaa
section
open Go.RowKit
set_option linter.unusedVariables false
set_option linter.unusedSimpArgs false

theorem rowN2_nils (n : Nat) : (madeCells (Value.agg #[.slice none 0 0, .slice none 0 0]).cells (n * 2)).toList = rowN2 (List.replicate n nilP) := by
  have e : ∀ m : Nat, rowN2 (List.replicate m nilP) = List.replicate (m * 2) (.slice none 0 0) := fun m => by
    induction m with
    | zero => rfl
    | succ m ih =>
      rw [List.replicate_succ]
      show Value.slice none 0 0 :: Value.slice none 0 0 :: rowN2 (List.replicate m nilP) = _
      rw [ih, show (m + 1) * 2 = m * 2 + 1 + 1 from by omega, List.replicate_succ, List.replicate_succ]
  rw [e]
  apply List.ext_getElem
  · simp [madeCells]
  · intro i h1 h2
    have : i % 2 = 0 ∨ i % 2 = 1 := by omega
    rcases this with h3 | h3 <;> simp [madeCells, Value.cells, h3]

theorem OwnL.nils (w : World) (base n : Nat) : OwnL w base (List.replicate n nilP) ((List.replicate n (([], []) : Nd)).map upN) := by
  have h : ∀ (j : Nat) (p : Value × Value), (List.replicate n nilP)[j]? = some p → p = nilP := fun j p hp => by
    rw [List.getElem?_replicate] at hp
    split at hp
    · injection hp with hp; exact hp.symm
    · cases hp
  refine ⟨by simp, fun j nd p hj hp => ?_, fun j p hp => ?_, fun i j p q _ hp hq => ?_⟩
  · rw [h j p hp]
    rw [List.getElem?_map, List.getElem?_replicate] at hj
    split at hj
    · simp only [Option.map_some, Option.some.injEq] at hj
      subst hj
      exact ⟨OwnI.nil _ _, OwnI.nil _ _⟩
    · cases hj
  · rw [h j p hp]; exact Apart.nil _
  · rw [h i p hp, h j q hq]; exact ⟨Apart.nil _, Apart.nil _, Apart.nil _, Apart.nil _⟩

/-- the state at a day's beginning -/
structure Day0 (P : List Nd) (b : Nat → Nat) (d : Nat) (Q : List Nat) (M : List Nd) (idx : List Nat) : Prop where
  canon : Canon P b (fun k => b k < d) (idx.map (fun i => M.getD i ([], []))) (fun k => Q.getD k 0)
  early : ∀ i ∈ idx, b i < d

set_option maxRecDepth 100000 in
set_option maxHeartbeats 4000000 in
theorem inOrder_calls (v : Value) (P : List Nd) (w : World) (lo hi : Nat) (hh : hi ≤ w.heap.size) (hv : NodesZ w lo hi v (P.map upN)) (hu : Under P) (hl : P.length ≤ 100000) (hn : ∀ nd ∈ P, nd.1.length ≤ 1000 ∧ nd.2.length ≤ 1000) :
    Calls Try.prog 45 #[v] w fun e w' => ∃ a c vs g out Q, e = .returned (.tuple #[.slice a out.length c, .slice (some ⟨g, 0, none⟩) P.length P.length]) ∧ OwnF w' w.heap.size (.slice a out.length c) vs (out.map upN) ∧
      OwnI w' w.heap.size (.slice (some ⟨g, 0, none⟩) P.length P.length) (upL Q) ∧ Canon P (bOf P) (fun _ => True) out (fun k => Q.getD k 0) ∧ Below w.heap.size w w' := by
  obtain ⟨iI, hiI, hzI0, hzI1, hzI2⟩ := info_parts infoIntA
  obtain ⟨iN, hiN, hzN0, hzN1, hzN2⟩ := info_parts infoNodeA
  have HV := Lib.hid hv
  have HU := Lib.hid hu
  have HN := Lib.hid hn
  have CD := Lib.hid fun (W : World) (hW : Below w.heap.size w W) => daysOf_calls v P W lo hi (Nat.le_trans hh hW.size) (hv.below hW hh) hu (by omega)
  have HBi := Lib.hid (births_bOf P hu)
  obtain ⟨ao, c0, hvs⟩ : ∃ ao c, v = .slice ao P.length c := by obtain ⟨ao, c, e, _⟩ := hv; exact ⟨ao, c, by rw [e]; simp⟩
  subst hvs
  obtain ⟨b, hb⟩ : ∃ b, bOf P = b := ⟨_, rfl⟩
  rw [hb] at CD HBi ⊢
  have HDd := Lib.hid fun (d : Nat) (l : List Nat) (h : (daysL b P.length)[d]? = some l) => daysL_day HBi.out hu h
  have HDl := Lib.hid (daysL_lt b P.length)
  have HDs := Lib.hid fun (d : Nat) (l : List Nat) (h : (daysL b P.length)[d]? = some l) => (daysL_small b P.length l (List.mem_of_getElem? h)).1
  have HLl : Hid ((daysL b P.length).length ≤ P.length) := Lib.hid (daysL_len b P.length P.length (fun i hi => by rw [← hb]; have := bOf_le P hu i hi; omega))
  clear hv hu hn hb
  go_enter Try.func45, Try.ntmps45
  go_wp2_with (first
    | (at_make; refine wpList_make_full _ rfl _ _ 41 rfl w.heap.size 3 iI (.int .i64 0) 1 Try.underlying41 hiI hzI0 hzI1 _ _ _ _ P.length rfl rfl rfl rfl (by rw [hzI2]; omega) (by unfold maxLen; omega) (Nat.le_refl _) ?_; intro w1 hown hg; have hs1 := (World.ownsRow.lt hown _ rfl).2; have HO1 := Lib.hid hown; have HG1 := Lib.hid hg; clear hown hg)
    | (at_make; refine wpList_make_full _ rfl _ _ 26 rfl w.heap.size 57 iN (.agg #[.slice none 0 0, .slice none 0 0]) 2 Try.underlying26 hiN hzN0 hzN1 _ _ _ _ P.length rfl rfl rfl rfl (by rw [hzN2]; omega) (by unfold maxLen; omega) (Nat.le_of_lt hs1) ?_; intro w2 hown hg; have hs2 := (World.ownsRow.lt hown _ rfl).2; have HO2 := Lib.hid hown; have HG2 := Lib.hid hg; clear hown hg)
    | fail)
  have hg2 : Below w1.heap.size w1 w2 := (Below.refl _ _).grown HG2.out (Nat.le_refl _) (fun k hk => by cases hk)
  have HB2 := Lib.hid (((Below.refl _ _).grown HG1.out (Nat.le_refl _) (fun k hk => by cases hk) : Below w.heap.size w w1).trans (hg2.mono (Nat.le_of_lt hs1)))
  have HP2 : Hid (OwnI w2 w.heap.size (.slice (some ⟨w.heap.size, 0, none⟩) P.length P.length) (upL (List.replicate P.length 0))) := Lib.hid (by
    have e : (madeCells (Value.int .i64 0).cells (P.length * 1)).toList = (upL (List.replicate P.length 0)).map (Value.int .i64) := by
      show (madeCells #[Value.int .i64 0] (P.length * 1)).toList = _
      rw [Nat.mul_one, made_one]
      simp [upL]
    refine OwnI.below ?_ hg2
    unfold OwnI
    rw [upL_len, List.length_replicate, ← e]
    exact HO1.out)
  have HR2 : Hid (w2.ownsRow w.heap.size 57 2 (.slice (some ⟨w1.heap.size, 0, none⟩) P.length P.length) P.length (rowN2 (List.replicate P.length nilP))) := Lib.hid (by rw [← rowN2_nils]; exact HO2.out)
  have hba : Below w2.heap.size w2 (w2.alloc (.cells #[.slice (some ⟨w1.heap.size, 0, none⟩) P.length P.length] 26)) := (Below.refl _ _).alloc (Nat.le_refl _) _
  have HB3 := Lib.hid (HB2.out.trans (hba.mono (by omega)))
  have HX3 : BoxAt (w2.alloc (.cells #[.slice (some ⟨w1.heap.size, 0, none⟩) P.length P.length] 26)) w2.heap.size (.slice (some ⟨w1.heap.size, 0, none⟩) P.length P.length) := ⟨by go_simp, by go_simp⟩
  have HP3 := Lib.hid (HP2.out.below hba)
  have HR3 := Lib.hid (own_only HR2.out (Only.of_below (F := fun _ => False) hba) (fun _ _ => id))
  have hz3 : (w2.alloc (.cells #[.slice (some ⟨w1.heap.size, 0, none⟩) P.length P.length] 26)).heap.size = w2.heap.size + 1 := by simp
  clear hba hg2 HG1 HG2 HO1 HO2 HB2 HP2 HR2
  refine (CD.out _ HB3.out).mono ?_
  generalize w2.alloc (.cells #[.slice (some ⟨w1.heap.size, 0, none⟩) P.length P.length] 26) = w3 at HB3 HX3 HP3 HR3 hz3 ⊢
  rintro e w4 ⟨ad, cd, vds, rfl, hday, hb4⟩
  have hs4 := hb4.size
  have HIS : Hid (InS w w4 w1.heap.size w2.heap.size P.length w4.heap.size (List.replicate P.length 0) (List.replicate P.length ([], [])) (List.replicate P.length nilP) [] (.slice none 0 0)) := Lib.hid
    ⟨HB3.out.trans (hb4.mono (by omega)), ⟨hs1, hs2, by omega⟩, Nat.le_refl _, HP3.out.below hb4, HX3.below hb4, own_only HR3.out (Only.of_below (F := fun _ => False) hb4) (fun _ _ => id), OwnL.nils _ _ _, World.ownsRow_nil _ _ _ _,
      fun j p hp => ⟨Apart.nil _, Apart.nil _⟩, by simp, by simp, fun i hi => by simp at hi, List.nodup_nil⟩
  have HDA : Hid (DaysAt w4 w3.heap.size w4.heap.size (.slice ad (daysL b P.length).length cd) vds (daysL b P.length) (daysL b P.length) 0) := Lib.hid
    ⟨hday, rfl, fun _ _ => rfl, fun j p g hp hg => by
      obtain ⟨l, hl'⟩ := lt_get (l := (daysL b P.length).map upL) (i := j) (by rw [← hday.len]; exact get_lt hp)
      exact (hday.list j l p hl' hp).lt g hg, fun g hg => World.ownsRow.lt hday.rows g hg⟩
  have HD0 : Hid (Day0 P b 0 (List.replicate P.length 0) (List.replicate P.length ([], [])) []) := Lib.hid ⟨days_none P b _, fun i hi => by simp at hi⟩
  clear hday hb4 HB3 HX3 HP3 HR3 CD
  obtain ⟨L, hL⟩ : ∃ L, daysL b P.length = L := ⟨_, rfl⟩
  rw [hL] at HDd HDl HDs HLl HDA ⊢
  clear hL
  go_wp2
  go_loopw [4, 22] (fun v i wr => ∃ (d k : Nat) (a : Option Addr) (c : Nat) (Q : List Nat) (M : List Nd) (vs : List (Value × Value)) (idx : List Nat) (L' : List (List Nat)), d ≤ L.length ∧ i = .int .i64 d ∧ v = .slice a k c ∧ Hid (k = idx.length) ∧ Hid (InS w wr w1.heap.size w2.heap.size P.length w4.heap.size Q M vs idx (.slice a k c)) ∧ Hid (Day0 P b d Q M idx) ∧ Hid (DaysAt wr w3.heap.size w4.heap.size (.slice ad L.length cd) vds L L' d)) (fun _ i _ => L.length - (intOf i).toNat)
  case atStart => exact ⟨0, 0, none, 0, _, _, _, [], L, Nat.zero_le _, rfl, rfl, Lib.hid rfl, HIS, HD0, HDA⟩
  case round =>
    obtain ⟨d, k, a, c, Q, M, vs, idx, L', hd, rfl, rfl, hk, his, hd0, hda⟩ := hrel
    clear HIS HDA HD0
    by_cases hlt : d < L.length
    · obtain ⟨l, hl'⟩ := lt_get hlt
      obtain ⟨hne, hnod, hmem⟩ := HDd.out d l hl'
      have hll := HDs.out d l hl'
      obtain ⟨gv, cv, g, cg, hvd, hvg, hcv, hog, hg3, hg4, hL'⟩ := hda.out.get hl' hne
      obtain ⟨e1, e2, e3⟩ := slice_inj hvd; clear e2
      subst e1 e3
      have HMem := Lib.hid hmem
      have HNod := Lib.hid hnod
      have HL' := Lib.hid hl'
      have HVG := Lib.hid hvg
      have d0 : (0 : Int) ≤ d := by omega
      have d1 : (d : Int) < L.length := by omega
      obtain ⟨W1, hW1⟩ : ∃ W, W = wr := ⟨_, rfl⟩
      subst hW1
      clear hne hnod hmem hvd hvg hL' hl' hog
      go_wp2
      go_loopw [28] (fun i wr => ∃ (j : Nat) (M' : List Nd) (vs' : List (Value × Value)), j ≤ l.length ∧ i = .int .i64 j ∧ Hid (InS w wr w1.heap.size w2.heap.size P.length w4.heap.size Q M' vs' idx (.slice a k c)) ∧ Hid (DaysAt wr w3.heap.size w4.heap.size (.slice (some ⟨gv, 0, none⟩) L.length cd) vds L L' d) ∧
        Hid (∀ x ∈ l.take j, M'.getD x ([], []) = movd (fun y => Q.getD y 0) (P.getD x ([], []))) ∧ Hid (∀ x ∈ idx, M'.getD x ([], []) = M.getD x ([], []))) (fun i _ => l.length - (intOf i).toNat)
      case atStart => exact ⟨0, M, vs, Nat.zero_le _, rfl, his, hda, Lib.hid (fun x hx => by simp at hx), Lib.hid (fun x hx => rfl)⟩
      case round =>
        clear his hda
        obtain ⟨j, M', vs', hj, rfl, his, hda, hm, hi0⟩ := hrel
        by_cases hlt2 : j < l.length
        · obtain ⟨x, hx⟩ := lt_get hlt2
          have hxm := (HMem.out x).1 (List.mem_of_getElem? hx)
          have hxn := hxm.1
          obtain ⟨nd, hnd⟩ := lt_get hxn
          have hcd := ((hda.out.row HL'.out HVG.out).at_ (x := j) (v := (x : Int)) (by unfold upL; rw [List.getElem?_map, hx]; rfl)).1
          obtain ⟨nb, off, cc, v1, v2, e, hbh, p1, p2, i1, i2⟩ := nodes_atP (HV.out.below his.out.below hh) hnd
          obtain ⟨q1, q2, q3⟩ := slice_inj e; clear q2
          subst q1 q3
          obtain ⟨a1, d1, rfl, hd1⟩ := ints_lenP i1
          obtain ⟨a2, d2, rfl, hd2⟩ := ints_lenP i2
          obtain ⟨po, ndo, _, _, m1, m2, mf1, mf2, _, _⟩ := his.out.node hxn
          have hbx := his.out.box.1
          have hsz := his.out.below.size
          have hql := his.out.qlen
          have hhi := Nat.le_trans hh hsz
          have hnn := HN.out nd (List.mem_of_getElem? hnd)
          have hux := HU.out x nd hnd
          have C1 := Lib.hid fun (W : World) (hW : RowKit.Below wr.heap.size wr W) => movedI_calls (.slice a1 nd.1.length d1) (.slice (some ⟨w.heap.size, 0, none⟩) P.length P.length) nd.1 Q W lo hi w.heap.size wr.heap.size (Nat.le_trans hhi hW.size) hW.size (i1.below hW hhi) (his.out.places.ints.below hW (Nat.le_refl _)) (fun y hy => by have := hux y (Or.inl hy); omega) hnn.1 (by omega)
          have C2 := Lib.hid fun (W : World) (hW : RowKit.Below wr.heap.size wr W) => movedI_calls (.slice a2 nd.2.length d2) (.slice (some ⟨w.heap.size, 0, none⟩) P.length P.length) nd.2 Q W lo hi w.heap.size wr.heap.size (Nat.le_trans hhi hW.size) hW.size (i2.below hW hhi) (his.out.places.ints.below hW (Nat.le_refl _)) (fun y hy => by have := hux y (Or.inr hy); omega) hnn.2 (by omega)
          obtain ⟨t1, ht1⟩ : ∃ n, sortd (nd.1.map fun y => Q.getD y 0) = n := ⟨_, rfl⟩
          obtain ⟨t2, ht2⟩ : ∃ n, sortd (nd.2.map fun y => Q.getD y 0) = n := ⟨_, rfl⟩
          rw [ht1] at C1
          rw [ht2] at C2
          have HT : Hid (movd (fun y => Q.getD y 0) nd = (t1, t2)) := Lib.hid (by unfold movd; rw [ht1, ht2])
          clear ht1 ht2
          have x0 : (0 : Int) ≤ x := by omega
          have x1 : (x : Int) < P.length := by omega
          have j0 : (0 : Int) ≤ j := by omega
          have j1 : (j : Int) < l.length := by omega
          have HX := Lib.hid hx
          have HND := Lib.hid hnd
          have HXM := Lib.hid hxm
          have hgmw := block_of_cell m1
          clear e i1 i2 hx hnd hxm hux hnn hql
          go_upto_region 10 with fail
          have hbd : RowKit.Below wr.heap.size wr wr.drew := below_drewN (RowKit.Below.refl _ _) 1
          have hS0 : wr.drew.cell? ⟨w2.heap.size, 0, none⟩ = some (.slice (some ⟨w1.heap.size, 0, none⟩) P.length P.length) ∧ wr.drew.cell? ⟨nb, off + x * 2, none⟩ = some (.slice a1 nd.1.length d1) ∧ wr.drew.cell? ⟨nb, off + x * 2 + 1, none⟩ = some (.slice a2 nd.2.length d2) := ⟨hbx, p1, p2⟩
          go_region_held3 (fun w' : World => w'.cell? ⟨w2.heap.size, 0, none⟩ = some (.slice (some ⟨w1.heap.size, 0, none⟩) P.length P.length) ∧ w'.cell? ⟨nb, off + x * 2, none⟩ = some (.slice a1 nd.1.length d1) ∧ w'.cell? ⟨nb, off + x * 2 + 1, none⟩ = some (.slice a2 nd.2.length d2)) (first | exact hS0 | (go_split_ands; exact ⟨‹_›, ‹_›, ‹_›⟩) | exact in3 hbx p1 p2 (by assumption) | exact in3s hbx p1 p2 HBb (by omega) (by omega) (by omega)) (first
            | (go_at_call 75; (with_reducible refine (C1.out _ hbd).mono ?_); rintro e wa ⟨g1, c1, rfl, ho1, hba⟩; have HBa : RowKit.Below wr.heap.size wr wa := hbd.trans (hba.mono (by simp)))
            | (go_at_call 75; (with_reducible refine (C2.out wa HBa).mono ?_); rintro e wb ⟨g2, c2, rfl, ho2, hbb⟩; have HBb : RowKit.Below wr.heap.size wr wb := HBa.trans (hbb.mono HBa.size); have mb1 := (bcell HBb _ _ hgmw).trans m1; have mb2 := (bcell HBb _ _ hgmw).trans m2; have mg1 := (HBb.frozen (p := ⟨w1.heap.size, x * 2, none⟩) hgmw).trans mf1; have mg2 := (HBb.frozen (p := ⟨w1.heap.size, x * 2 + 1, none⟩) hgmw).trans mf2))
          all_goals
            have hxi : x ∉ idx := fun h => by have := hd0.out.early x h; have := HXM.out.2; omega
            have O1 : OwnI wb wr.heap.size (.slice (some ⟨g1, 0, none⟩) t1.length c1) (upL t1) := ho1.below hbb
            have O2 : OwnI wb wr.heap.size (.slice (some ⟨g2, 0, none⟩) t2.length c2) (upL t2) := ho2.mono HBa.size
            have HA : Apart (.slice (some ⟨g1, 0, none⟩) t1.length c1) (.slice (some ⟨g2, 0, none⟩) t2.length c2) := fun q e1 e2 => by
              have := ho1.lt q e1
              have := ho2.lt q e2
              omega
            have I3 := Lib.hid (his.out.setM (i := x) (nd := (t1, t2)) (p := (.slice (some ⟨g1, 0, none⟩) t1.length c1, .slice (some ⟨g2, 0, none⟩) t2.length c2)) HBb O1 O2 HA hxi)
            have D3 := Lib.hid ((hda.out.below HBb).only (F := fun b => b = w1.heap.size) ((Only.of_set (F := fun b => b = w1.heap.size) (p := ⟨w1.heap.size, x * 2, none⟩) (.slice (some ⟨g1, 0, none⟩) t1.length c1) rfl).trans (Only.of_set (F := fun b => b = w1.heap.size) (p := ⟨w1.heap.size, x * 2 + 1, none⟩) (.slice (some ⟨g2, 0, none⟩) t2.length c2) rfl) (fun _ _ e => e)) (fun b e => by omega))
            have hml := his.out.mlen
            have M3 : Hid (∀ y ∈ l.take (j + 1), (M'.set x (t1, t2)).getD y ([], []) = movd (fun y => Q.getD y 0) (P.getD y ([], []))) := Lib.hid (fun y hy => by
              rw [getD_set_eqN _ _ _ _ (by omega)]
              by_cases h : x = y
              · subst h
                rw [if_pos rfl, getD_at HND.out, HT.out]
              · rw [if_neg h]
                refine hm.out y ?_
                rcases (mem_take_succ HX.out).1 hy with h2 | h2
                · exact h2
                · exact absurd h2.symm h)
            have N3 : Hid (∀ y ∈ idx, (M'.set x (t1, t2)).getD y ([], []) = M.getD y ([], [])) := Lib.hid (fun y hy => by
              rw [getD_set_eqN _ _ _ _ (by omega), if_neg (fun (h : x = y) => hxi (by rw [h]; exact hy))]
              exact hi0.out y hy)
            clear O1 O2 HA ho1 ho2 hba hbb HBa HBb hbx p1 p2 hS0 m1 m2 mb1 mb2 mg1 mg2 mf1 mf2 hcd hbd
            go_wp2
            go_roundw
            case rel => exact ⟨j + 1, _, _, by omega, by go_num, I3, D3, M3, N3⟩
            case measure => first | (simp [intOf]; done) | (simp [intOf]; omega)
        · have hje : j = l.length := by omega
          subst hje
          rw [List.take_length] at hm
          have hrow := hda.out.row HL'.out HVG.out
          have hcm := his.out.cmpAt
          have hsz := his.out.size
          have hs3 := his.out.s4
          have CS := Lib.hid (sortDay_calls l M' wr w3.heap.size g cg w2.heap.size w1.heap.size P.length P.length vs' w4.heap.size wr.heap.size hrow hcm (Nat.le_refl _) (fun x hx => ((HMem.out x).1 hx).1) (by omega) (by omega) (Or.inl hg4) (by omega) (by omega) (by
            cases l with
            | nil => exact absurd rfl (HDd.out d [] HL'.out).1
            | cons y l => have := ((HMem.out y).1 (by simp)).1; omega))
          clear hrow hcm
          go_wp2_with fail
          refine CS.out.mono ?_
          rintro e wq ⟨rfl, D', hperm, hasc, hoq, hgq⟩
          have hoq1 : Only wr wq (fun b => b = g) := Only.of_grown hgq (fun q e => by injection e with e; exact e.symm)
          have I1 := Lib.hid (his.out.only hoq1 (fun q e => by omega))
          have A1 := Lib.hid (hda.out.sorted HL'.out HVG.out hgq hoq)
          have O1 := Lib.hid hoq
          have hlen : D'.length = l.length := hperm.length_eq
          have HDD : Hid (DayD P b d D' (fun y => Q.getD y 0)) := Lib.hid (dayD_sorted hperm HMem.out HNod.out hasc hm.out)
          have hmap : idx.map (fun i => M'.getD i ([], [])) = idx.map (fun i => M.getD i ([], [])) := List.map_congr_left (fun x hx => hi0.out x hx)
          have S1 : Hid (DayIs P b d D' (fun y => Q.getD y 0) 0 (idx.map (fun i => M'.getD i ([], []))) (fun y => Q.getD y 0)) := Lib.hid (by rw [hmap]; exact day_start hd0.out.canon)
          have E1 : Hid (∀ x ∈ idx, b x < d ∨ x ∈ D'.take 0) := Lib.hid (fun x hx => Or.inl (hd0.out.early x hx))
          have HML : Hid (∀ x ∈ D', M'.getD x ([], []) = movd (fun y => Q.getD y 0) (P.getD x ([], [])) ∧ x < P.length) := Lib.hid (fun x hx => ⟨hm.out x (hperm.mem_iff.1 hx), ((HMem.out x).1 (hperm.mem_iff.1 hx)).1⟩)
          clear hoq hgq hoq1 hperm hasc hmap his hda hm hi0 hd0 CS
          go_wp2
          go_loopw [4, 56] (fun v i wr => ∃ (j k : Nat) (a : Option Addr) (c : Nat) (Q' : List Nat) (idx' : List Nat), j ≤ l.length ∧ i = .int .i64 j ∧ v = .slice a k c ∧ Hid (k = idx'.length) ∧ Hid (InS w wr w1.heap.size w2.heap.size P.length w4.heap.size Q' M' vs' idx' (.slice a k c)) ∧
            Hid (DaysAt wr w3.heap.size w4.heap.size (.slice (some ⟨gv, 0, none⟩) L.length cd) vds L (L'.set d D') (d + 1)) ∧ Hid (OwnI wr w3.heap.size (.slice (some ⟨g, 0, none⟩) l.length cg) (upL D')) ∧ Hid (DayIs P b d D' (fun y => Q.getD y 0) j (idx'.map (fun i => M'.getD i ([], []))) (fun y => Q'.getD y 0)) ∧ Hid (∀ x ∈ idx', b x < d ∨ x ∈ D'.take j)) (fun _ i _ => l.length - (intOf i).toNat)
          case atStart => exact ⟨0, k, a, c, Q, idx, Nat.zero_le _, rfl, rfl, hk, I1, A1, O1, S1, E1⟩
          case round =>
            clear I1 A1 O1 S1 E1 hk
            obtain ⟨j, k, a, c, Q', idx', hj, rfl, rfl, hk, his, hda, hod, hds, hel⟩ := hrel
            by_cases hlt3 : j < l.length
            · obtain ⟨x, hx⟩ := lt_get (l := D') (i := j) (by omega)
              have hxd := HML.out x (List.mem_of_getElem? hx)
              have hxn := hxd.2
              have hcd := (hod.out.at_ (x := j) (v := (x : Int)) (by unfold upL; rw [List.getElem?_map, hx]; rfl)).1
              obtain ⟨px, ndx, hpx, hndx, m1, m2, _, _, i1, i2⟩ := his.out.node hxn
              obtain ⟨ax1, cx1, hv1⟩ := i1.form
              obtain ⟨ax2, cx2, hv2⟩ := i2.form
              obtain ⟨px1, px2⟩ := px
              simp only at hv1 hv2 m1 m2 i1 i2
              subst hv1 hv2
              have hbx := his.out.box.1
              have hsz := his.out.size
              have hs3 := his.out.s4
              have hql := his.out.qlen
              have hkl : idx'.length ≤ P.length := by
                have h1 := his.out.nodup
                have h2 := his.out.idxlt
                have := List.Nodup.length_le_of_subset h1 (l₂ := List.range P.length) (fun y hy => by simp; exact h2 y hy)
                simpa using this
              have hkk := hk.out
              have hpl := his.out.places
              obtain ⟨q0, hq0⟩ := lt_get (l := upL Q') (i := x) (by rw [upL_len]; omega)
              have hqc := hpl.at_ hq0
              have hxi : x ∉ idx' := fun h => by
                rcases hel.out x h with h2 | h2
                · have := ((HDD.out.mem x).1 (List.mem_of_getElem? hx)).2; omega
                · have h3 := HDD.out.nodup
                  rw [← List.take_append_drop j D', List.nodup_append] at h3
                  refine h3.2.2 x h2 x ?_ rfl
                  have hl := get_lt hx
                  rw [List.drop_eq_getElem_cons hl]
                  rw [List.getElem?_eq_getElem hl] at hx
                  injection hx with hx
                  rw [hx]
                  exact List.mem_cons_self
              have HE : Hid (ndx = movd (fun y => Q.getD y 0) (P.getD x ([], []))) := Lib.hid (by rw [← hxd.1, getD_at hndx])
              have x0 : (0 : Int) ≤ x := by omega
              have x1 : (x : Int) < P.length := by omega
              have j0 : (0 : Int) ≤ j := by omega
              have j1 : (j : Int) < l.length := by omega
              have HX := Lib.hid hx
              have HPX := Lib.hid hpx
              have HNX := Lib.hid hndx
              have HXI := Lib.hid hxi
              have hgpw := block_of_cell hqc.1
              have hpw1 := block_of_cell m1
              have hpwb := block_of_cell hbx
              clear hx hxd hpx hndx hpl hq0 hxi hkk
              by_cases hk0 : k = 0
              · have HLst : Hid ((idx'.map (fun i => M'.getD i ([], []))).getLast? ≠ some ndx) := Lib.hid (by
                  have h := hk.out
                  have : idx' = [] := List.length_eq_zero_iff.1 (h.symm.trans hk0)
                  subst this
                  simp)
                have hkb : ((k : Int) == 0) = true := by simp [hk0]
                have k0 : (0 : Int) ≤ k := by omega
                clear hk0
                go_upto_region 16 with fail
                go_quiet (fail)
                have HWB := Lib.hid (below_drewN (RowKit.Below.refl wr.heap.size wr) nq)
                generalize wr.drewN nq = WA at HWB ⊢
                clear hkb
                have mb1 := (bcell HWB.out _ _ hpw1).trans m1
                have mb2 := (bcell HWB.out _ _ hpw1).trans m2
                have mbx := (bcell HWB.out _ _ hpwb).trans hbx
                have qb1 := (bcell HWB.out _ _ hgpw).trans hqc.1
                have qb2 := (HWB.out.frozen (p := ⟨w.heap.size, x, none⟩) hgpw).trans hqc.2
                have IW := Lib.hid (his.out.below' HWB.out)
                have DW := Lib.hid (hda.out.below HWB.out)
                have OW := Lib.hid (hod.out.below HWB.out)
                have hszW := HWB.out.size
                have hkP : k ≤ P.length := by have := hk.out; omega
                clear m1 m2 hbx hqc his hda hod hcd
                go_wp2_with (at_builtin; refine wpList_append_own_at _ rfl _ _ 26 rfl w4.heap.size 57 iN (.agg #[.slice none 0 0, .slice none 0 0]) 2 48 Try.underlying26 hiN hzN0 hzN1 hzN2 rfl (by decide) _ _ _ rfl (World.ownsRow.alloc IW.out.srt _) ⟨WA.heap.size, 0, none⟩ 1 1 [.slice ax1 (upL ndx.1).length cx1, .slice ax2 (upL ndx.2).length cx2] rfl rfl ?c1 ?c2 ?c3 ?c4 ?c5 ?_)
                case c1 => exact World.news_of_block (heap_alloc_new _ _)
                case c2 => first | exact ⟨rfl, rfl⟩ | (intro u hu; simp at hu; rcases hu with rfl | rfl <;> rfl)
                case c3 => unfold maxLen; omega
                case c4 => omega
                case c5 => simp; omega
                intro v6 w6 hown6 hgrow6 hnil6 hat6
                have hal : RowKit.Below WA.heap.size WA (WA.alloc (.cells #[.slice ax1 (upL ndx.1).length cx1, .slice ax2 (upL ndx.2).length cx2] 57)) := (RowKit.Below.refl _ _).alloc (Nat.le_refl _) _
                have I6 := (IW.out.below' hal).push (i := x) (p := (.slice ax1 (upL ndx.1).length cx1, .slice ax2 (upL ndx.2).length cx2)) hgrow6 hown6 (by
                  rcases hat6 with h | h
                  · exact Or.inl h
                  · exact Or.inr (by rw [h]; first | rfl | simp)) HPX.out HXI.out
                have hsl := fun q e => (World.ownsRow.lt IW.out.srt q e).1
                have hoA : Only WA w6 (fun q => w4.heap.size ≤ q) := (Only.of_below (F := fun q => w4.heap.size ≤ q) hal).trans (Only.of_grown (F := fun q => w4.heap.size ≤ q) hgrow6 (fun q e => hsl q e)) (fun _ _ h => h)
                have D6 := DW.out.only hoA (fun q e => Or.inr e)
                have O6 := OW.out.only hoA (fun q e h => by have := own_eqp e; omega)
                have qc1 := (hoA.cell (o := x) (by omega : w.heap.size < WA.heap.size) (by omega)).trans qb1
                have qc2 := (hoA.frozen (o := x) (by omega : w.heap.size < WA.heap.size) (by omega)).trans qb2
                obtain ⟨a6, c6, hv6⟩ := own_form' I6.srt
                rw [List.length_append, List.length_singleton, ← hk.out] at hv6
                subst hv6
                have I7 := Lib.hid (I6.setQ (i := x) (k := k))
                have oQ : Only w6 (w6.setCell ⟨w.heap.size, x, none⟩ (.int .i64 (k : Int))) (fun q => q = w.heap.size) := Only.of_set _ rfl
                have D7 := Lib.hid (D6.only oQ (fun q e => Or.inl (by omega)))
                have O7 := Lib.hid (O6.only oQ (fun q e h => by have := own_eqp e; omega))
                have K7 : Hid (k + 1 = (idx' ++ [x]).length) := Lib.hid (by rw [List.length_append, List.length_singleton, ← hk.out])
                have S7 := Lib.hid (day_new' HBi.out HU.out HDD.out hds.out HX.out (by rw [getD_at HNX.out]; exact HE.out) (by omega) hk.out (by rw [getD_at HNX.out]; exact HLst.out))
                have E7 : Hid (∀ y ∈ idx' ++ [x], b y < d ∨ y ∈ D'.take (j + 1)) := Lib.hid (fun y hy => by
                  rw [mem_take_succ HX.out]
                  rcases List.mem_append.1 hy with h | h
                  · rcases hel.out y h with h2 | h2
                    · exact Or.inl h2
                    · exact Or.inr (Or.inl h2)
                  · exact Or.inr (Or.inr (by simpa using h)))
                have hkn : (k : Int) + 1 - 1 = (k : Int) := by omega
                have hkn2 : ((k + 1 : Nat) : Int) - 1 = (k : Int) := by omega
                have hkn3 : ((k + 1 : Nat) : Int) ≤ 100001 := by omega
                clear hown6 hgrow6 hnil6 hat6 hal hsl hoA oQ I6 D6 O6 IW DW OW mb1 mb2 mbx qb1 qb2 hk hds hel
                go_wp2
                go_roundw
                case rel => exact ⟨j + 1, k + 1, a6, c6, _, _, by omega, by go_num, rfl, K7, I7, D7, O7, S7, E7⟩
                case measure => first | (simp [intOf]; done) | (simp [intOf]; omega)
              · obtain ⟨il, gl, cl, pl, ndl, hil, hvl, hpl, hndl, l1, l2, li1, li2⟩ := his.out.last (by have := hk.out; omega)
                obtain ⟨e1, e2, e3⟩ := slice_inj hvl
                clear e2
                subst e1 e3
                obtain ⟨al1, cl1, hvl1⟩ := li1.form
                obtain ⟨al2, cl2, hvl2⟩ := li2.form
                obtain ⟨pl1, pl2⟩ := pl
                simp only at hvl1 hvl2 l1 l2 li1 li2
                subst hvl1 hvl2
                have HLO : Hid ((idx'.map (fun i => M'.getD i ([], []))).getLast? = some ndl) := Lib.hid (out_last hil hndl)
                rw [← hk.out] at l1 l2
                obtain ⟨r, hr⟩ : ∃ r, cmpNd (upN ndl) (upN ndx) = r := ⟨_, rfl⟩
                have CC := Lib.hid fun (W : World) (hW : RowKit.Below wr.heap.size wr W) => cmpOpts_calls _ _ _ _ (upN ndl) (upN ndx) W w4.heap.size wr.heap.size w4.heap.size wr.heap.size hW.size hW.size (li1.ints.below hW (Nat.le_refl _)) (li2.ints.below hW (Nat.le_refl _)) (i1.ints.below hW (Nat.le_refl _)) (i2.ints.below hW (Nat.le_refl _))
                rw [hr] at CC
                have HR : Hid (r = 0 ↔ ndl = ndx) := Lib.hid (by rw [← hr, cmpNd_eq]; exact ⟨upN_inj, fun h => by rw [h]⟩)
                clear hil hvl hpl hndl li1 li2 hr i1 i2
                have hkP : k ≤ P.length := by have := hk.out; omega
                have hkb : ((k : Int) == 0) = false := by simp; omega
                have k0 : (1 : Int) ≤ k := by omega
                have k1 : (0 : Int) ≤ k := by omega
                have hn1 : IntKind.i64.wrap ((k : Int) - 1) = ((k - 1 : Nat) : Int) := by rw [IntWalk.i64_in _ (by omega)]; omega
                have hn2 : ((k - 1 : Nat) : Int) < k := by omega
                have hn3 : (0 : Int) ≤ ((k - 1 : Nat) : Int) := by omega
                have hkz : ¬ k = 0 := by omega
                have hkc : (k == 0) = false := by simp; omega
                have hkd : decide ((k : Int) = 0) = false := by simp; omega
                have hke : decide (k = 0) = false := by simp; omega
                by_cases hr0 : r = 0
                · have hrb : (r != 0) = false := by simp [hr0]
                  have HNE : Hid (ndl = ndx) := Lib.hid (HR.out.1 hr0)
                  clear hr0 HR
                  go_upto_region 16 with fail
                  have hbd : RowKit.Below wr.heap.size wr wr.drew := below_drewN (RowKit.Below.refl _ _) 1
                  have hS0 : wr.drew.cell? ⟨gl, (k - 1) * 2, none⟩ = some (.slice al1 (upL ndl.1).length cl1) ∧ wr.drew.cell? ⟨gl, (k - 1) * 2 + 1, none⟩ = some (.slice al2 (upL ndl.2).length cl2) ∧ wr.drew.cell? ⟨w2.heap.size, 0, none⟩ = some (.slice (some ⟨w1.heap.size, 0, none⟩) P.length P.length) ∧ wr.drew.cell? ⟨w1.heap.size, x * 2, none⟩ = some (.slice ax1 (upL ndx.1).length cx1) ∧ wr.drew.cell? ⟨w1.heap.size, x * 2 + 1, none⟩ = some (.slice ax2 (upL ndx.2).length cx2) := ⟨l1, l2, hbx, m1, m2⟩
                  go_still_tail 14, (by kernel_rfl)
                  repeat still_step
                  change wpList _ _ _ _ _ wr.drew
                  go_wp2_with fail
                  refine (CC.out _ hbd).mono ?_
                  rintro e WA ⟨rfl, hba⟩
                  have HWB : Hid (RowKit.Below wr.heap.size wr WA) := Lib.hid (hbd.trans (hba.mono (by simp)))
                  clear hba hbd hS0 CC l1 l2
                  have qb1 := (bcell HWB.out _ _ hgpw).trans hqc.1
                  have qb2 := (HWB.out.frozen (p := ⟨w.heap.size, x, none⟩) hgpw).trans hqc.2
                  have IW := Lib.hid (his.out.below' HWB.out)
                  have DW := Lib.hid (hda.out.below HWB.out)
                  have OW := Lib.hid (hod.out.below HWB.out)
                  have hszW := HWB.out.size
                  have I7 := Lib.hid (IW.out.setQ (i := x) (k := k - 1))
                  have oQ : Only WA (WA.setCell ⟨w.heap.size, x, none⟩ (.int .i64 ((k - 1 : Nat) : Int))) (fun q => q = w.heap.size) := Only.of_set _ rfl
                  have D7 := Lib.hid (DW.out.only oQ (fun q e => Or.inl (by omega)))
                  have O7 := Lib.hid (OW.out.only oQ (fun q e h => by have := own_eqp e; omega))
                  have S7 := Lib.hid (day_old' HBi.out HU.out HDD.out hds.out HX.out (by rw [getD_at HNX.out]; exact HE.out) (by omega) hk.out (by rw [getD_at HNX.out, HLO.out, HNE.out]))
                  have E7 : Hid (∀ y ∈ idx', b y < d ∨ y ∈ D'.take (j + 1)) := Lib.hid (fun y hy => by
                    rw [mem_take_succ HX.out]
                    rcases hel.out y hy with h2 | h2
                    · exact Or.inl h2
                    · exact Or.inr (Or.inl h2))
                  have hcast : ((k - 1 : Nat) : Int) = (k : Int) - 1 := by omega
                  rw [hcast] at I7 D7 O7
                  clear hcast oQ IW DW OW m1 m2 hbx hqc his hda hod hcd hds hel hn1 hn2 hn3
                  go_wp2
                  go_roundw
                  case rel => exact ⟨j + 1, k, _, c, _, _, by omega, by go_num, rfl, hk, I7, D7, O7, S7, E7⟩
                  case measure => first | (simp [intOf]; done) | (simp [intOf]; omega)
                · have hrb : (r != 0) = true := by simp [hr0]
                  have HNE : Hid (ndl ≠ ndx) := Lib.hid (fun h => hr0 (HR.out.2 h))
                  clear hr0 HR
                  go_upto_region 16 with fail
                  have hbd : RowKit.Below wr.heap.size wr wr.drew := below_drewN (RowKit.Below.refl _ _) 1
                  have hS0 : True := trivial
                  go_still_tail 14, (by kernel_rfl)
                  repeat still_step
                  change wpList _ _ _ _ _ wr.drew
                  go_wp2_with fail
                  refine (CC.out _ hbd).mono ?_
                  rintro e WA ⟨rfl, hba⟩
                  have HWB : Hid (RowKit.Below wr.heap.size wr WA) := Lib.hid (hbd.trans (hba.mono (by simp)))
                  clear hba hbd hS0 CC l1 l2
                  have HLst : Hid ((idx'.map (fun i => M'.getD i ([], []))).getLast? ≠ some ndx) := Lib.hid (by rw [HLO.out]; exact fun h => HNE.out (Option.some.inj h))
                  clear hn1 hn2 hn3 hkz hkc hkd hke
                  have mb1 := (bcell HWB.out _ _ hpw1).trans m1
                  have mb2 := (bcell HWB.out _ _ hpw1).trans m2
                  have mbx := (bcell HWB.out _ _ hpwb).trans hbx
                  have qb1 := (bcell HWB.out _ _ hgpw).trans hqc.1
                  have qb2 := (HWB.out.frozen (p := ⟨w.heap.size, x, none⟩) hgpw).trans hqc.2
                  have IW := Lib.hid (his.out.below' HWB.out)
                  have DW := Lib.hid (hda.out.below HWB.out)
                  have OW := Lib.hid (hod.out.below HWB.out)
                  have hszW := HWB.out.size
                  have hkP : k ≤ P.length := by have := hk.out; omega
                  clear m1 m2 hbx hqc his hda hod hcd
                  go_wp2_with (at_builtin; refine wpList_append_own_at _ rfl _ _ 26 rfl w4.heap.size 57 iN (.agg #[.slice none 0 0, .slice none 0 0]) 2 48 Try.underlying26 hiN hzN0 hzN1 hzN2 rfl (by decide) _ _ _ rfl (World.ownsRow.alloc IW.out.srt _) ⟨WA.heap.size, 0, none⟩ 1 1 [.slice ax1 (upL ndx.1).length cx1, .slice ax2 (upL ndx.2).length cx2] rfl rfl ?c1 ?c2 ?c3 ?c4 ?c5 ?_)
                  case c1 => exact World.news_of_block (heap_alloc_new _ _)
                  case c2 => first | exact ⟨rfl, rfl⟩ | (intro u hu; simp at hu; rcases hu with rfl | rfl <;> rfl)
                  case c3 => unfold maxLen; omega
                  case c4 => omega
                  case c5 => simp; omega
                  intro v6 w6 hown6 hgrow6 hnil6 hat6
                  have hal : RowKit.Below WA.heap.size WA (WA.alloc (.cells #[.slice ax1 (upL ndx.1).length cx1, .slice ax2 (upL ndx.2).length cx2] 57)) := (RowKit.Below.refl _ _).alloc (Nat.le_refl _) _
                  have I6 := (IW.out.below' hal).push (i := x) (p := (.slice ax1 (upL ndx.1).length cx1, .slice ax2 (upL ndx.2).length cx2)) hgrow6 hown6 (by
                    rcases hat6 with h | h
                    · exact Or.inl h
                    · exact Or.inr (by rw [h]; first | rfl | simp)) HPX.out HXI.out
                  have hsl := fun q e => (World.ownsRow.lt IW.out.srt q e).1
                  have hoA : Only WA w6 (fun q => w4.heap.size ≤ q) := (Only.of_below (F := fun q => w4.heap.size ≤ q) hal).trans (Only.of_grown (F := fun q => w4.heap.size ≤ q) hgrow6 (fun q e => hsl q e)) (fun _ _ h => h)
                  have D6 := DW.out.only hoA (fun q e => Or.inr e)
                  have O6 := OW.out.only hoA (fun q e h => by have := own_eqp e; omega)
                  have qc1 := (hoA.cell (o := x) (by omega : w.heap.size < WA.heap.size) (by omega)).trans qb1
                  have qc2 := (hoA.frozen (o := x) (by omega : w.heap.size < WA.heap.size) (by omega)).trans qb2
                  obtain ⟨a6, c6, hv6⟩ := own_form' I6.srt
                  rw [List.length_append, List.length_singleton, ← hk.out] at hv6
                  subst hv6
                  have I7 := Lib.hid (I6.setQ (i := x) (k := k))
                  have oQ : Only w6 (w6.setCell ⟨w.heap.size, x, none⟩ (.int .i64 (k : Int))) (fun q => q = w.heap.size) := Only.of_set _ rfl
                  have D7 := Lib.hid (D6.only oQ (fun q e => Or.inl (by omega)))
                  have O7 := Lib.hid (O6.only oQ (fun q e h => by have := own_eqp e; omega))
                  have K7 : Hid (k + 1 = (idx' ++ [x]).length) := Lib.hid (by rw [List.length_append, List.length_singleton, ← hk.out])
                  have S7 := Lib.hid (day_new' HBi.out HU.out HDD.out hds.out HX.out (by rw [getD_at HNX.out]; exact HE.out) (by omega) hk.out (by rw [getD_at HNX.out]; exact HLst.out))
                  have E7 : Hid (∀ y ∈ idx' ++ [x], b y < d ∨ y ∈ D'.take (j + 1)) := Lib.hid (fun y hy => by
                    rw [mem_take_succ HX.out]
                    rcases List.mem_append.1 hy with h | h
                    · rcases hel.out y h with h2 | h2
                      · exact Or.inl h2
                      · exact Or.inr (Or.inl h2)
                    · exact Or.inr (Or.inr (by simpa using h)))
                  have hkn : (k : Int) + 1 - 1 = (k : Int) := by omega
                  have hkn2 : ((k + 1 : Nat) : Int) - 1 = (k : Int) := by omega
                  have hkn3 : ((k + 1 : Nat) : Int) ≤ 100001 := by omega
                  clear hown6 hgrow6 hnil6 hat6 hal hsl hoA oQ I6 D6 O6 IW DW OW mb1 mb2 mbx qb1 qb2 hk hds hel
                  go_wp2
                  go_roundw
                  case rel => exact ⟨j + 1, k + 1, a6, c6, _, _, by omega, by go_num, rfl, K7, I7, D7, O7, S7, E7⟩
                  case measure => first | (simp [intOf]; done) | (simp [intOf]; omega)
            · have hje : j = l.length := by omega
              subst hje
              have HD2 : Hid (Day0 P b (d + 1) Q' M' idx') := Lib.hid ⟨by
                have h := hds.out
                rw [← hlen] at h
                exact day_end HDD.out h, fun i hi => by
                  rcases hel.out i hi with h | h
                  · omega
                  · have := ((HDD.out.mem i).1 (List.mem_of_mem_take h)).2; omega⟩
              clear hod hds hel
              have hLL := HLl.out
              go_wp2
              go_roundw
              case rel => exact ⟨d + 1, k, a, c, Q', M', vs', idx', _, by omega, by go_num, rfl, hk, his, HD2, hda⟩
              case measure => first | (simp [intOf]; done) | (simp [intOf]; omega)
    · have hde : d = L.length := by omega
      subst hde
      have HF : Hid (OwnF wr w.heap.size (.slice a k c) (idx.map (fun i => vs.getD i nilP)) ((idx.map (fun i => M.getD i ([], []))).map upN)) := Lib.hid (by
        have h := OwnF.of_pick his.out.lists his.out.srt his.out.apart (fun i hi => by rw [List.length_map, his.out.mlen]; exact his.out.idxlt i hi) his.out.nodup
        have e : (idx.map (fun i => M.getD i ([], []))).map upN = idx.map (fun i => (M.map upN).getD i ([], [])) := by
          rw [List.map_map]
          exact List.map_congr_left (fun x _ => (upN_getD M x).symm)
        rw [e]
        exact h.mono (by have := his.out.s4; omega))
      have HC := Lib.hid (days_all hd0.out.canon HDl.out)
      have HQ := Lib.hid his.out.places
      have HB := Lib.hid his.out.below
      clear his hda hd0
      go_wp2
      have e := hk.out
      have e2 : k = (idx.map (fun i => M.getD i ([], []))).length := by rw [List.length_map]; exact e
      go_ret2
      refine ⟨a, c, idx.map (fun i => vs.getD i nilP), w.heap.size, idx.map (fun i => M.getD i ([], [])), Q, ?_, ?_, HQ.out, HC.out, HB.out⟩
      · rw [← e2]; rfl
      · rw [← e2]; exact HF.out
end

section
section
open Go.RowKit
set_option linter.unusedVariables false
set_option linter.unusedSimpArgs false

theorem goodI_res (v : Value) (f : List Nz) (r : Bool) (hr : Hid (goodB f = r)) (w : World) (lo hi : Nat) (hh : hi ≤ w.heap.size) (hv : NodesZ w lo hi v f) :
    Calls Try.prog 67 #[.agg #[v]] w fun e w' => e = .returned (.bool r) ∧ Below w.heap.size w w' := by
  rw [← hr.out]
  exact goodI_calls v f w lo hi hh hv

set_option maxHeartbeats 1000000 in
theorem formOf_calls (v : Value) (P : List Nd) (f : List Nz) (ok : Bool) (w : World) (lo hi : Nat) (hh : hi ≤ w.heap.size) (hv : NodesZ w lo hi v (P.map upN)) (hu : Under P) (h0 : 0 < P.length) (hr : ∀ k, k < P.length → Reached P (P.length - 1) k) (hl : P.length ≤ 100000) (hn : ∀ nd ∈ P, nd.1.length ≤ 1000 ∧ nd.2.length ≤ 1000)
    (hok : Hid (fitsN (formM P) = ok)) (hf : Hid (outV P = f)) :
    Calls Try.prog 36 #[v] w fun e w' => ∃ a c vs, e = .returned (.tuple #[.agg #[.slice a f.length c], .bool ok]) ∧ OwnF w' w.heap.size (.slice a f.length c) vs f ∧ Below w.heap.size w w' := by
  have HB0 := Lib.hid fun o => show Below w.heap.size w (w.alloc o) from (Below.refl _ _).alloc (Nat.le_refl _) _
  have CO := Lib.hid fun (W : World) (hW : Below w.heap.size w W) => inOrder_calls v P W lo hi (Nat.le_trans hh hW.size) (hv.below hW hh) hu hl hn
  have HG := Lib.hid fun (out : List Nd) (pl : Nat → Nat) (h : Canon P (bOf P) (fun _ => True) out pl) => order_is hu h0 hr h
  have HGF := Lib.hid (good_fits P hu h0 hr)
  have hvs : ∃ ao n c, v = .slice ao n c := by obtain ⟨ao, c, e, _⟩ := hv; exact ⟨ao, _, c, e⟩
  obtain ⟨ao, nv, cv, rfl⟩ := hvs
  clear hv hu h0 hr hl hn
  go_enter Try.func36, Try.ntmps36
  go_wp2_with fail
  refine (CO.out _ (HB0.out _)).mono ?_
  rintro e w1 ⟨a, c, vs, gq, out, Q, rfl, hof, hoq, hcan, hb1⟩
  have hz0 : (w.alloc (.cells #[.slice none 0 0] 28)).heap.size = w.heap.size + 1 := by simp
  rw [hz0] at hof hb1
  obtain rfl := HG.out _ _ hcan
  have HB1 := Lib.hid ((HB0.out _).trans (hb1.mono (by omega)))
  have hbx : BoxAt w1 w.heap.size (.slice none 0 0) := ⟨(hb1.cell (p := ⟨w.heap.size, 0, none⟩) (by show w.heap.size < w.heap.size + 1; omega)).trans (by go_simp), (hb1.frozen (p := ⟨w.heap.size, 0, none⟩) (by show w.heap.size < w.heap.size + 1; omega)).trans (by go_simp)⟩
  have hs1 := hb1.size
  have HF1 := Lib.hid hof
  clear hof hoq hcan hb1 CO HG
  obtain ⟨n, hN⟩ : ∃ n, (formM P).length = n := ⟨_, rfl⟩
  rw [hN] at HF1 ⊢
  have hba := HB0.out
  have hbal : Below w1.heap.size w1 (w1.alloc (.cells #[.slice a n c] 28)) := (Below.refl _ _).alloc (Nat.le_refl _) _
  have HF2 := Lib.hid (HF1.out.below hbal)
  have CG := Lib.hid (goodI_res (.slice a n c) ((formM P).map upN) ok (Lib.hid (HGF.out.trans hok.out)) (w1.alloc (.cells #[.slice a n c] 28)) (w.heap.size + 1) (w1.alloc (.cells #[.slice a n c] 28)).heap.size (Nat.le_refl _) HF2.out.nodesZ)
  have HN := Lib.hid hN
  clear hN
  go_wp2_with fail
  refine CG.out.mono ?_
  rintro e w2 ⟨rfl, hb2⟩
  have hb12 : Below w1.heap.size w1 w2 := hbal.trans (hb2.mono (by simp))
  have hbx2 := hbx.below hb12
  have k1 : w2.cell? ⟨w1.heap.size, 0, none⟩ = some (.slice a n c) := (bcell hb2 _ _ (by simp)).trans (by go_simp)
  have HF3 := Lib.hid (HF1.out.below hb12)
  have HB2 := Lib.hid (HB1.out.trans (hb12.mono (by omega)))
  have hc0 := hbx2.1
  have hz02 := hbx2.2
  have hsz2 := block_of_cell hbx2.1
  clear hb2 hb12 hbal hbx CG HB1 HF1 HF2
  cases ok with
  | true =>
    have HFe : Hid ((formM P).map upN = f) := Lib.hid (by rw [← hf.out, outV_yes hok.out])
    have HL : Hid (n = f.length) := Lib.hid (by rw [← HFe.out, List.length_map, HN.out])
    have O4 : Hid (OwnF (w2.setCell ⟨w.heap.size, 0, none⟩ (.slice a n c)) w.heap.size (.slice a n c) vs f) := Lib.hid (by
      rw [← HFe.out]
      exact (HF3.out.setCell (by show w.heap.size < w.heap.size + 1; omega)).mono (by omega))
    have B4 := Lib.hid (HB2.out.setCell (p := ⟨w.heap.size, 0, none⟩) (Nat.le_refl _) (.slice a n c))
    have hcr := World.cell?_setCell_same w2 ⟨w.heap.size, 0, none⟩ (.slice a n c) hc0
    clear HF3 HB2 hbx2
    go_wp2_with fail
    refine bodyPost_ret (v := .tuple #[.agg #[.slice a n c], .bool true]) (by simp [results, Try.results36, go_sem, hcr]) rfl ⟨a, c, vs, ?_, ?_, B4.out⟩
    · rw [← HL.out]
    · rw [← HL.out]; exact O4.out
  | false =>
    obtain rfl : f = [] := by rw [← hf.out, outV_no hok.out]
    have B4 := Lib.hid (HB2.out.setCell (p := ⟨w.heap.size, 0, none⟩) (Nat.le_refl _) (.slice none 0 0))
    have hcr := World.cell?_setCell_same w2 ⟨w.heap.size, 0, none⟩ (.slice none 0 0) hc0
    clear HF3 HB2 hbx2
    go_wp2_with fail
    exact bodyPost_ret (v := .tuple #[.agg #[.slice none 0 0], .bool false]) (by simp [results, Try.results36, go_sem, hcr]) rfl ⟨none, 0, [], rfl, OwnF.nil _ _, B4.out⟩
end

section
open Go.RowKit
set_option linter.unusedVariables false
set_option linter.unusedSimpArgs false

/-- a list of numbers that lies apart from a block -/
def IntsX (w : World) (g : Nat) (v : Value) (l : List Int) : Prop := ∃ lo hi, hi ≤ w.heap.size ∧ (g < lo ∨ hi ≤ g) ∧ IntsZ w lo hi v l

theorem IntsX.below {w w' : World} {g : Nat} {v : Value} {l : List Int} (h : IntsX w g v l) (hb : Below w.heap.size w w') : IntsX w' g v l := by
  obtain ⟨lo, hi, h1, h2, h3⟩ := h
  exact ⟨lo, hi, Nat.le_trans h1 hb.size, h2, h3.below hb h1⟩
theorem IntsX.only {w w' : World} {g : Nat} {v : Value} {l : List Int} (h : IntsX w g v l) (ho : Only w w' (fun b => b = g)) : IntsX w' g v l := by
  obtain ⟨lo, hi, h1, h2, h3⟩ := h
  exact ⟨lo, hi, Nat.le_trans h1 ho.size, h2, h3.keep (fun b o e1 e2 => ho.cell (by omega) (by omega))⟩
theorem IntsX.ints {w : World} {g : Nat} {v : Value} {l : List Int} (h : IntsX w g v l) : IntsZ w 0 w.heap.size v l := by
  obtain ⟨lo, hi, h1, h2, h3⟩ := h
  exact h3.wide (Nat.zero_le _) h1

structure RowZ (w : World) (base g n : Nat) (vs : List (Value × Value)) (F : List Nz) (k : Nat) : Prop where
  row : w.ownsRow base 57 2 (.slice (some ⟨g, 0, none⟩) n n) n (rowN2 vs)
  len : vs.length = n
  part : ∀ (j : Nat) (nd : Nz), j < k → F[j]? = some nd → ∃ p, vs[j]? = some p ∧ IntsX w g p.1 nd.1 ∧ IntsX w g p.2 nd.2

theorem RowZ.below {w w' : World} {base g n : Nat} {vs : List (Value × Value)} {F : List Nz} {k : Nat} (h : RowZ w base g n vs F k) (hb : Below w.heap.size w w') : RowZ w' base g n vs F k :=
  ⟨own_only h.row (Only.of_below (F := fun _ => False) hb) (fun _ _ => id), h.len, fun j nd hj hf => by
    obtain ⟨p, h1, h2, h3⟩ := h.part j nd hj hf
    exact ⟨p, h1, h2.below hb, h3.below hb⟩⟩

theorem RowZ.made {w : World} {base g n : Nat} {F : List Nz} (h : w.ownsRow base 57 2 (.slice (some ⟨g, 0, none⟩) n n) n (madeCells (Value.agg #[.slice none 0 0, .slice none 0 0]).cells (n * 2)).toList) : RowZ w base g n (List.replicate n nilP) F 0 :=
  ⟨by rw [← rowN2_nils]; exact h, by simp, fun j nd hj _ => by omega⟩

theorem RowZ.set {w : World} {base g n : Nat} {vs : List (Value × Value)} {F : List Nz} {k : Nat} {nd : Nz} {p : Value × Value} (h : RowZ w base g n vs F k) (hk : k < n) (hf : F[k]? = some nd) (h1 : IntsX w g p.1 nd.1) (h2 : IntsX w g p.2 nd.2) :
    RowZ ((w.setCell ⟨g, k * 2, none⟩ p.1).setCell ⟨g, k * 2 + 1, none⟩ p.2) base g n (vs.set k p) F (k + 1) := by
  have s1 := World.ownsRow.stored h.row (k * 2) p.1
  have s2 := World.ownsRow.stored s1.1 (k * 2 + 1) p.2
  rw [rowN2_set] at s2
  have ho : Only w ((w.setCell ⟨g, k * 2, none⟩ p.1).setCell ⟨g, k * 2 + 1, none⟩ p.2) (fun b => b = g) := (Only.of_set (F := fun b => b = g) (p := ⟨g, k * 2, none⟩) p.1 rfl).trans (Only.of_set (F := fun b => b = g) (p := ⟨g, k * 2 + 1, none⟩) p.2 rfl) (fun _ _ e => e)
  refine ⟨s2.1, by rw [List.length_set]; exact h.len, fun j n0 hj hf0 => ?_⟩
  by_cases e : j = k
  · subst e
    rw [hf] at hf0
    injection hf0 with hf0
    subst hf0
    exact ⟨p, by rw [List.getElem?_set_self (by rw [h.len]; exact hk)], h1.only ho, h2.only ho⟩
  · obtain ⟨q, q1, q2, q3⟩ := h.part j n0 (by omega) hf0
    exact ⟨q, by rw [List.getElem?_set_ne (fun h => e h.symm)]; exact q1, q2.only ho, q3.only ho⟩

theorem RowZ.cells {w : World} {base g n : Nat} {vs : List (Value × Value)} {F : List Nz} {k : Nat} (h : RowZ w base g n vs F k) {j : Nat} (hj : j < n) :
    ∃ p, vs[j]? = some p ∧ w.cell? ⟨g, j * 2, none⟩ = some p.1 ∧ w.cell? ⟨g, j * 2 + 1, none⟩ = some p.2 ∧ w.frozen? ⟨g, j * 2, none⟩ = false ∧ w.frozen? ⟨g, j * 2 + 1, none⟩ = false := by
  obtain ⟨p, hp⟩ := lt_get (l := vs) (i := j) (by rw [h.len]; exact hj)
  have hr := rowN2_at vs j p hp
  refine ⟨p, hp, ?_, ?_, World.ownsRow.frozenAt h.row _, World.ownsRow.frozenAt h.row _⟩
  · rw [World.ownsRow.cellAt h.row (j * 2) (by omega)]; exact hr.1
  · rw [World.ownsRow.cellAt h.row (j * 2 + 1) (by omega)]; exact hr.2

theorem RowZ.nodesZ {w : World} {base g n : Nat} {vs : List (Value × Value)} {F : List Nz} (h : RowZ w base g n vs F n) (hl : F.length = n) : NodesZ w 0 w.heap.size (.slice (some ⟨g, 0, none⟩) n n) F := by
  have hlt := World.ownsRow.lt h.row g rfl
  refine ⟨_, n, by rw [hl], by rw [hl]; exact ⟨Nat.le_refl _, (World.ownsRow.caps h.row).2⟩, fun j nd hj => ?_⟩
  have hjn : j < n := by have := get_lt hj; omega
  obtain ⟨p, hp, h1, h2⟩ := h.part j nd hjn hj
  obtain ⟨q, hq, c1, c2, _, _⟩ := h.cells hjn
  rw [hp] at hq
  injection hq with hq
  subst hq
  exact ⟨g, 0, p.1, p.2, rfl, Nat.zero_le _, hlt.2, by rw [Nat.zero_add]; exact c1, by rw [Nat.zero_add]; exact c2, h1.ints, h2.ints⟩
end
end

end Go.Proofs.Ytanjanckkgbnbaa
