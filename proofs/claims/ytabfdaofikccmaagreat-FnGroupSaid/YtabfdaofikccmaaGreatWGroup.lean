/- The walk of laws.FnGroup. -/
import Derived.Test.YtabfdaofikccmaaGreatVfAll
import Derived.Test.YtabfdaofikccmaaGreatVSum
import Derived.Test.YtabfdaofikccmaaGreatBoxF
import Derived.Test.YtabfdaofikccmaaGreatDrNg
import Derived.Test.YtabfdaofikccmaaGreatInAll
import Derived.Test.YtabfdaofikccmaaGreatSqAll
import Derived.Test.YtabfdaofikccmaaGreatSpAll
import Derived.Test.YtabfdaofikccmaaGreatOrAll
import Derived.Test.YtabfdaofikccmaaGreatGpAll
namespace Go.Proofs.YtabfdaofikccmaaGreat
open Go.RowKit
set_option linter.unusedVariables false
set_option linter.unusedSimpArgs false

set_option maxRecDepth 100000 in
set_option maxHeartbeats 8000000 in
theorem fnGroup_walk (ao : Option Addr) (n c : Nat) (w : World) (hc : CodeIn w (.slice ao n c) n) (hnc : n ≤ c) (hm : c ≤ 9223372036854775807) (hz : ao = none → c = 0) :
    Calls Tryz.prog 4 #[.slice ao n c] w fun e w' => e = .returned (.bool true) ∧ Below w.heap.size w w' := by
  have HC := Lib.hid fun (W : World) (hW : Below w.heap.size w W) => hc.below hW
  have HV := Lib.hid (vBig_calls ao n c w)
  by_cases hbig : 65536 < n
  · rw [decide_eq_true hbig] at HV
    clear hc hm hz hnc
    go_enter Tryz.func4, Tryz.ntmps4
    go_wp2_with fail
    refine HV.out.mono ?_
    rintro e w1 ⟨rfl, rfl⟩
    go_wp2_with fail
    go_ret
    exact ⟨rfl, Below.refl _ _⟩
  rw [decide_eq_false hbig] at HV
  have HN := Lib.hid (show n ≤ 65536 by omega)
  have HCC := Lib.hid (And.intro hnc (And.intro hm hz))
  clear hc hm hz hnc hbig
  go_enter Tryz.func4, Tryz.ntmps4
  go_wp2_with fail
  refine HV.out.mono ?_
  rintro e w0 ⟨rfl, rfl⟩
  clear HV
  have HB := Lib.hid (Below.refl w0.heap.size w0)
  have C := Lib.hid (vForm_calls ao n c w0 (HC.out _ HB.out) (by have := HN.out; omega))
  go_wp2_with fail
  refine C.out.mono ?_
  rintro e wd1 ⟨a1, c1, f1, rfl, hz, hg, hl, hb⟩
  have Q1 := Lib.hid (copyOf_nodes hz)
  replace HB := Lib.hid (below_via HB.out hb)
  clear hg hl
  clear hb C hz
  have C := Lib.hid (vCutForm_calls ao n c wd1 (HC.out _ HB.out) HN.out HCC.out.1 HCC.out.2.1 HCC.out.2.2)
  go_wp2_with fail
  refine C.out.mono ?_
  rintro e wd2 ⟨a2, c2, f2, rfl, hz, hg, hl, hb⟩
  replace Q1 := Lib.hid (Q1.out.below hb)
  have Q2 := Lib.hid (copyOf_nodes hz)
  replace HB := Lib.hid (below_via HB.out hb)
  clear hg hl
  clear hb C hz
  have C := Lib.hid (vCutN_calls ao n c 3 wd2 (HC.out _ HB.out) HN.out HCC.out.1 HCC.out.2.1 HCC.out.2.2 (by omega) (by omega))
  go_wp2_with fail
  refine C.out.mono ?_
  rintro e wd3 ⟨g, n', c', rfl, hn', hc', hm', hci, hb⟩
  replace Q1 := Lib.hid (Q1.out.below hb)
  replace Q2 := Lib.hid (Q2.out.below hb)
  replace HB := Lib.hid (below_via HB.out hb)
  have HD := Lib.hid (drawNeg_calls _ n' c' wd3 hci (by have := HN.out; omega))
  clear hn' hc' hm' hci
  clear hb C
  have C := Lib.hid (HD.out)
  go_wp2_with fail
  refine C.out.mono ?_
  rintro e wd4 ⟨a3, c3, f3, rfl, hz, hl, hb⟩
  replace Q1 := Lib.hid (Q1.out.below hb)
  replace Q2 := Lib.hid (Q2.out.below hb)
  have Q3 := Lib.hid (copyOf_nodes hz)
  replace HB := Lib.hid (below_via HB.out hb)
  clear hl HD
  clear hb C hz
  obtain ⟨hx1, hx2, hx3, hst⟩ := three_boxes Q1.out Q2.out Q3.out 26
  have X1 := Lib.hid hx1
  have X2 := Lib.hid hx2
  have X3 := Lib.hid hx3
  replace HB := Lib.hid (below_via HB.out hst)
  clear hst hx1 hx2 hx3 Q1 Q2 Q3
  go_upto_region 4 with fail
  generalize (((wd4.alloc (.cells #[.slice a1 f1.length c1] 26)).alloc (.cells #[.slice a2 f2.length c2] 26)).alloc (.cells #[.slice a3 f3.length c3] 26)) = wm5 at HB X1 X2 X3 ⊢
  generalize wd4.heap.size = DB at X1 X2 X3 ⊢
  clear HC HN HCC
  obtain ⟨p, hp⟩ : ∃ x, sumV f1 f2 = x := ⟨_, rfl⟩
  obtain ⟨ok, hok⟩ : ∃ x, sumOk f1 f2 = x := ⟨_, rfl⟩
  have HP := Lib.hid hp
  have HP2 : Hid (sumV f2 f1 = p) := Lib.hid (by rw [sumV_turn, hp])
  have HOK := Lib.hid hok
  have HOK2 : Hid (sumOk f2 f1 = ok) := Lib.hid (by rw [sumOk_turn, hok])
  clear hp hok
  obtain ⟨kX1, loX1, hiX1, hhX1, nX1⟩ := X1.out
  obtain ⟨kX2, loX2, hiX2, hhX2, nX2⟩ := X2.out
  have C := Lib.hid (vSum_calls _ _ f1 f2 p ok HOK HP wm5 loX1 hiX1 loX2 hiX2 hhX1 hhX2 nX1 nX2)
  clear hhX1 nX1 hhX2 nX2
  go_wp2_with fail
  refine C.out.mono ?_
  rintro e wa6 ⟨a4, c4, rfl, ho, hb⟩
  have hst := below_via hb (below_new wa6 (.cells #[.slice a4 p.length c4] 26))
  replace HB := Lib.hid (below_via HB.out hst)
  replace X1 := Lib.hid (X1.out.step hst)
  replace X2 := Lib.hid (X2.out.step hst)
  replace X3 := Lib.hid (X3.out.step hst)
  have X4 := Lib.hid (BoxF.new (copyOf_nodes ho) 26)
  clear ho hb hst C 
  clear kX1
  clear kX2
  go_upto_region 5 with fail
  generalize (wa6.alloc (.cells #[.slice a4 p.length c4] 26)) = wm6 at HB X1 X2 X3 X4 ⊢
  generalize wa6.heap.size = DX4 at X4 ⊢
  obtain ⟨kX2, loX2, hiX2, hhX2, nX2⟩ := X2.out
  obtain ⟨kX1, loX1, hiX1, hhX1, nX1⟩ := X1.out
  have C := Lib.hid (vSum_calls _ _ f2 f1 p ok HOK2 HP2 wm6 loX2 hiX2 loX1 hiX1 hhX2 hhX1 nX2 nX1)
  clear hhX2 nX2 hhX1 nX1
  go_wp2_with fail
  refine C.out.mono ?_
  rintro e wa7 ⟨a5, c5, rfl, ho, hb⟩
  have hst := below_via hb (below_new wa7 (.cells #[.slice a5 p.length c5] 26))
  replace HB := Lib.hid (below_via HB.out hst)
  replace X1 := Lib.hid (X1.out.step hst)
  replace X2 := Lib.hid (X2.out.step hst)
  replace X3 := Lib.hid (X3.out.step hst)
  replace X4 := Lib.hid (X4.out.step hst)
  have X5 := Lib.hid (BoxF.new (copyOf_nodes ho) 26)
  clear ho hb hst C 
  clear kX2
  clear kX1
  go_upto_region 6 with fail
  generalize (wa7.alloc (.cells #[.slice a5 p.length c5] 26)) = wm7 at HB X1 X2 X3 X4 X5 ⊢
  generalize wa7.heap.size = DX5 at X5 ⊢
  clear HP HP2 HOK HOK2
  obtain ⟨q, hq⟩ : ∃ x, negV f3 = x := ⟨_, rfl⟩
  obtain ⟨r, hr⟩ : ∃ x, goodB f3 = x := ⟨_, rfl⟩
  obtain ⟨s, hs⟩ : ∃ x, sumV f3 q = x := ⟨_, rfl⟩
  obtain ⟨t, ht⟩ : ∃ x, sumOk f3 q = x := ⟨_, rfl⟩
  have HM : Hid (r = true → goodB q = true ∧ negV q = f3 ∧ (t = true → goodB s = true ∧ ∀ l, soloF (s.map downN) (s.length - 1) l = false)) := Lib.hid (fun h => by
    have hg := hr.trans h
    refine ⟨by rw [← hq]; exact neg_good hg, by rw [← hq]; exact neg_neg hg, fun h2 => ?_⟩
    rw [← hq] at ht hs
    have e := fun l => zero_solo hg (ht.trans h2) l
    rw [hs] at e
    exact ⟨(e true).1, fun l => (e l).2⟩)
  have HQ := Lib.hid hq
  have HR := Lib.hid hr
  have HS := Lib.hid hs
  have HT := Lib.hid ht
  clear hq hr hs ht
  cases ok with
  | false =>
    obtain ⟨kX3, loX3, hiX3, hhX3, nX3⟩ := X3.out
    have C := Lib.hid (negI_calls _ f3 q r HR HQ wm7 loX3 hiX3 hhX3 nX3)
    clear hhX3 nX3
    go_wp2_with fail
    refine C.out.mono ?_
    rintro e wa8 ⟨a6, c6, vs6, rfl, ho, hb⟩
    have hst := below_via hb (below_new wa8 (.cells #[.slice a6 q.length c6] 26))
    replace HB := Lib.hid (below_via HB.out hst)
    replace X1 := Lib.hid (X1.out.step hst)
    replace X2 := Lib.hid (X2.out.step hst)
    replace X3 := Lib.hid (X3.out.step hst)
    replace X4 := Lib.hid (X4.out.step hst)
    replace X5 := Lib.hid (X5.out.step hst)
    have X6 := Lib.hid (BoxF.new (copyOf_nodes ho.nodesZ) 26)
    clear ho hb hst C 
    clear kX3
    go_upto_region 9 with fail
    generalize (wa8.alloc (.cells #[.slice a6 q.length c6] 26)) = wm8 at HB X1 X2 X3 X4 X5 X6 ⊢
    generalize wa8.heap.size = DX6 at X6 ⊢
    obtain ⟨kX3, loX3, hiX3, hhX3, nX3⟩ := X3.out
    have C := Lib.hid (negS_calls _ f3 q r HR HQ wm8 loX3 hiX3 hhX3 nX3)
    clear hhX3 nX3
    go_wp2_with fail
    refine C.out.mono ?_
    rintro e wa9 ⟨a7, c7, rfl, ho, hb⟩
    have hst := below_via hb (below_new wa9 (.cells #[.slice a7 q.length c7] 26))
    replace HB := Lib.hid (below_via HB.out hst)
    replace X1 := Lib.hid (X1.out.step hst)
    replace X2 := Lib.hid (X2.out.step hst)
    replace X3 := Lib.hid (X3.out.step hst)
    replace X4 := Lib.hid (X4.out.step hst)
    replace X5 := Lib.hid (X5.out.step hst)
    replace X6 := Lib.hid (X6.out.step hst)
    have X7 := Lib.hid (BoxF.new (copyOf_nodes ho) 26)
    clear ho hb hst C 
    clear kX3
    go_upto_region 10 with fail
    generalize (wa9.alloc (.cells #[.slice a7 q.length c7] 26)) = wm9 at HB X1 X2 X3 X4 X5 X6 X7 ⊢
    generalize wa9.heap.size = DX7 at X7 ⊢
    have e2 : (r != r) = false := by simp
    have C := Lib.hid (vSame_box X6.out.2 X7.out.2)
    have kX6 := X6.out.1
    have kX7 := X7.out.1
    go_wp2_with fail
    refine C.out.mono ?_
    rintro e wa10 ⟨rfl, hb⟩
    replace HB := Lib.hid (below_via HB.out hb)
    replace X1 := Lib.hid (X1.out.step hb)
    replace X2 := Lib.hid (X2.out.step hb)
    replace X3 := Lib.hid (X3.out.step hb)
    replace X4 := Lib.hid (X4.out.step hb)
    replace X5 := Lib.hid (X5.out.step hb)
    replace X6 := Lib.hid (X6.out.step hb)
    replace X7 := Lib.hid (X7.out.step hb)
    clear hb C kX6 kX7
    clear e2
    cases r with
    | false =>
      go_wp2_with fail
      go_ret
      exact ⟨rfl, HB.out⟩
    | true =>
      obtain ⟨hgq, hnn, hst⟩ := HM.out rfl
      have HGQ := Lib.hid hgq
      have HNN := Lib.hid hnn
      have HZS := Lib.hid hst
      clear hgq hnn hst HM
      obtain ⟨kX6, loX6, hiX6, hhX6, nX6⟩ := X6.out
      have C := Lib.hid (negI_calls _ q f3 true HGQ HNN wa10 loX6 hiX6 hhX6 nX6)
      clear hhX6 nX6
      go_wp2_with fail
      refine C.out.mono ?_
      rintro e wa11 ⟨a8, c8, vs8, rfl, ho, hb⟩
      have hst := below_via hb (below_new wa11 (.cells #[.slice a8 f3.length c8] 26))
      replace HB := Lib.hid (below_via HB.out hst)
      replace X1 := Lib.hid (X1.out.step hst)
      replace X2 := Lib.hid (X2.out.step hst)
      replace X3 := Lib.hid (X3.out.step hst)
      replace X4 := Lib.hid (X4.out.step hst)
      replace X5 := Lib.hid (X5.out.step hst)
      replace X6 := Lib.hid (X6.out.step hst)
      replace X7 := Lib.hid (X7.out.step hst)
      have X8 := Lib.hid (BoxF.new (copyOf_nodes ho.nodesZ) 26)
      clear ho hb hst C 
      clear kX6
      go_upto_region 15 with fail
      generalize (wa11.alloc (.cells #[.slice a8 f3.length c8] 26)) = wm11 at HB X1 X2 X3 X4 X5 X6 X7 X8 ⊢
      generalize wa11.heap.size = DX8 at X8 ⊢
      obtain ⟨kX3, loX3, hiX3, hhX3, nX3⟩ := X3.out
      obtain ⟨kX6, loX6, hiX6, hhX6, nX6⟩ := X6.out
      have C := Lib.hid (sumI_calls _ _ f3 q s t HT HS wm11 loX3 hiX3 loX6 hiX6 hhX3 hhX6 nX3 nX6)
      clear hhX3 nX3 hhX6 nX6
      go_wp2_with fail
      refine C.out.mono ?_
      rintro e wa12 ⟨a9, c9, vs9, rfl, ho, hb⟩
      have hst := below_via hb (below_new wa12 (.cells #[.slice a9 s.length c9] 26))
      replace HB := Lib.hid (below_via HB.out hst)
      replace X1 := Lib.hid (X1.out.step hst)
      replace X2 := Lib.hid (X2.out.step hst)
      replace X3 := Lib.hid (X3.out.step hst)
      replace X4 := Lib.hid (X4.out.step hst)
      replace X5 := Lib.hid (X5.out.step hst)
      replace X6 := Lib.hid (X6.out.step hst)
      replace X7 := Lib.hid (X7.out.step hst)
      replace X8 := Lib.hid (X8.out.step hst)
      have X9 := Lib.hid (BoxF.new (copyOf_nodes ho.nodesZ) 26)
      clear ho hb hst C 
      clear kX3
      clear kX6
      go_upto_region 16 with fail
      generalize (wa12.alloc (.cells #[.slice a9 s.length c9] 26)) = wm12 at HB X1 X2 X3 X4 X5 X6 X7 X8 X9 ⊢
      generalize wa12.heap.size = DX9 at X9 ⊢
      cases t with
      | false =>
        have C := Lib.hid (vSame_box X8.out.2 X3.out.2)
        have kX8 := X8.out.1
        have kX3 := X3.out.1
        go_wp2_with fail
        refine C.out.mono ?_
        rintro e wa13 ⟨rfl, hb⟩
        replace HB := Lib.hid (below_via HB.out hb)
        replace X1 := Lib.hid (X1.out.step hb)
        replace X2 := Lib.hid (X2.out.step hb)
        replace X3 := Lib.hid (X3.out.step hb)
        replace X4 := Lib.hid (X4.out.step hb)
        replace X5 := Lib.hid (X5.out.step hb)
        replace X6 := Lib.hid (X6.out.step hb)
        replace X7 := Lib.hid (X7.out.step hb)
        replace X8 := Lib.hid (X8.out.step hb)
        replace X9 := Lib.hid (X9.out.step hb)
        clear hb C kX8 kX3
        go_wp2_with fail
        go_ret
        exact ⟨rfl, HB.out⟩
      | true =>
        obtain ⟨hgs, hso⟩ := HZS.out rfl
        have HOC : Hid ((if goodB s then codeOf (!soloF (s.map downN) (s.length - 1) false) (!soloF (s.map downN) (s.length - 1) true) else 0) = 4) := Lib.hid (by rw [hgs, hso, hso]; rfl)
        have HGS := Lib.hid hgs
        clear hgs hso HZS
        obtain ⟨kX9, loX9, hiX9, hhX9, nX9⟩ := X9.out
        have C := Lib.hid (outcomeI_calls _ s 4 true HGS HOC wm12 loX9 hiX9 hhX9 nX9)
        clear hhX9 nX9
        go_wp2_with fail
        refine C.out.mono ?_
        rintro e wa13 ⟨rfl, hb⟩
        replace HB := Lib.hid (below_via HB.out hb)
        replace X1 := Lib.hid (X1.out.step hb)
        replace X2 := Lib.hid (X2.out.step hb)
        replace X3 := Lib.hid (X3.out.step hb)
        replace X4 := Lib.hid (X4.out.step hb)
        replace X5 := Lib.hid (X5.out.step hb)
        replace X6 := Lib.hid (X6.out.step hb)
        replace X7 := Lib.hid (X7.out.step hb)
        replace X8 := Lib.hid (X8.out.step hb)
        replace X9 := Lib.hid (X9.out.step hb)
        clear hb C 
        clear kX9
        have C := Lib.hid (vSame_box X8.out.2 X3.out.2)
        have kX8 := X8.out.1
        have kX3 := X3.out.1
        go_wp2_with fail
        refine C.out.mono ?_
        rintro e wa14 ⟨rfl, hb⟩
        replace HB := Lib.hid (below_via HB.out hb)
        replace X1 := Lib.hid (X1.out.step hb)
        replace X2 := Lib.hid (X2.out.step hb)
        replace X3 := Lib.hid (X3.out.step hb)
        replace X4 := Lib.hid (X4.out.step hb)
        replace X5 := Lib.hid (X5.out.step hb)
        replace X6 := Lib.hid (X6.out.step hb)
        replace X7 := Lib.hid (X7.out.step hb)
        replace X8 := Lib.hid (X8.out.step hb)
        replace X9 := Lib.hid (X9.out.step hb)
        clear hb C kX8 kX3
        go_wp2_with fail
        go_ret
        exact ⟨rfl, HB.out⟩
  | true =>
    have C := Lib.hid (vSame_box X4.out.2 X5.out.2)
    have kX4 := X4.out.1
    have kX5 := X5.out.1
    go_wp2_with fail
    refine C.out.mono ?_
    rintro e wa8 ⟨rfl, hb⟩
    replace HB := Lib.hid (below_via HB.out hb)
    replace X1 := Lib.hid (X1.out.step hb)
    replace X2 := Lib.hid (X2.out.step hb)
    replace X3 := Lib.hid (X3.out.step hb)
    replace X4 := Lib.hid (X4.out.step hb)
    replace X5 := Lib.hid (X5.out.step hb)
    clear hb C kX4 kX5
    obtain ⟨kX3, loX3, hiX3, hhX3, nX3⟩ := X3.out
    have C := Lib.hid (negI_calls _ f3 q r HR HQ wa8 loX3 hiX3 hhX3 nX3)
    clear hhX3 nX3
    go_wp2_with fail
    refine C.out.mono ?_
    rintro e wa9 ⟨a6, c6, vs6, rfl, ho, hb⟩
    have hst := below_via hb (below_new wa9 (.cells #[.slice a6 q.length c6] 26))
    replace HB := Lib.hid (below_via HB.out hst)
    replace X1 := Lib.hid (X1.out.step hst)
    replace X2 := Lib.hid (X2.out.step hst)
    replace X3 := Lib.hid (X3.out.step hst)
    replace X4 := Lib.hid (X4.out.step hst)
    replace X5 := Lib.hid (X5.out.step hst)
    have X6 := Lib.hid (BoxF.new (copyOf_nodes ho.nodesZ) 26)
    clear ho hb hst C 
    clear kX3
    go_upto_region 9 with fail
    generalize (wa9.alloc (.cells #[.slice a6 q.length c6] 26)) = wm9 at HB X1 X2 X3 X4 X5 X6 ⊢
    generalize wa9.heap.size = DX6 at X6 ⊢
    obtain ⟨kX3, loX3, hiX3, hhX3, nX3⟩ := X3.out
    have C := Lib.hid (negS_calls _ f3 q r HR HQ wm9 loX3 hiX3 hhX3 nX3)
    clear hhX3 nX3
    go_wp2_with fail
    refine C.out.mono ?_
    rintro e wa10 ⟨a7, c7, rfl, ho, hb⟩
    have hst := below_via hb (below_new wa10 (.cells #[.slice a7 q.length c7] 26))
    replace HB := Lib.hid (below_via HB.out hst)
    replace X1 := Lib.hid (X1.out.step hst)
    replace X2 := Lib.hid (X2.out.step hst)
    replace X3 := Lib.hid (X3.out.step hst)
    replace X4 := Lib.hid (X4.out.step hst)
    replace X5 := Lib.hid (X5.out.step hst)
    replace X6 := Lib.hid (X6.out.step hst)
    have X7 := Lib.hid (BoxF.new (copyOf_nodes ho) 26)
    clear ho hb hst C 
    clear kX3
    go_upto_region 10 with fail
    generalize (wa10.alloc (.cells #[.slice a7 q.length c7] 26)) = wm10 at HB X1 X2 X3 X4 X5 X6 X7 ⊢
    generalize wa10.heap.size = DX7 at X7 ⊢
    have e2 : (r != r) = false := by simp
    have C := Lib.hid (vSame_box X6.out.2 X7.out.2)
    have kX6 := X6.out.1
    have kX7 := X7.out.1
    go_wp2_with fail
    refine C.out.mono ?_
    rintro e wa11 ⟨rfl, hb⟩
    replace HB := Lib.hid (below_via HB.out hb)
    replace X1 := Lib.hid (X1.out.step hb)
    replace X2 := Lib.hid (X2.out.step hb)
    replace X3 := Lib.hid (X3.out.step hb)
    replace X4 := Lib.hid (X4.out.step hb)
    replace X5 := Lib.hid (X5.out.step hb)
    replace X6 := Lib.hid (X6.out.step hb)
    replace X7 := Lib.hid (X7.out.step hb)
    clear hb C kX6 kX7
    clear e2
    cases r with
    | false =>
      go_wp2_with fail
      go_ret
      exact ⟨rfl, HB.out⟩
    | true =>
      obtain ⟨hgq, hnn, hst⟩ := HM.out rfl
      have HGQ := Lib.hid hgq
      have HNN := Lib.hid hnn
      have HZS := Lib.hid hst
      clear hgq hnn hst HM
      obtain ⟨kX6, loX6, hiX6, hhX6, nX6⟩ := X6.out
      have C := Lib.hid (negI_calls _ q f3 true HGQ HNN wa11 loX6 hiX6 hhX6 nX6)
      clear hhX6 nX6
      go_wp2_with fail
      refine C.out.mono ?_
      rintro e wa12 ⟨a8, c8, vs8, rfl, ho, hb⟩
      have hst := below_via hb (below_new wa12 (.cells #[.slice a8 f3.length c8] 26))
      replace HB := Lib.hid (below_via HB.out hst)
      replace X1 := Lib.hid (X1.out.step hst)
      replace X2 := Lib.hid (X2.out.step hst)
      replace X3 := Lib.hid (X3.out.step hst)
      replace X4 := Lib.hid (X4.out.step hst)
      replace X5 := Lib.hid (X5.out.step hst)
      replace X6 := Lib.hid (X6.out.step hst)
      replace X7 := Lib.hid (X7.out.step hst)
      have X8 := Lib.hid (BoxF.new (copyOf_nodes ho.nodesZ) 26)
      clear ho hb hst C 
      clear kX6
      go_upto_region 15 with fail
      generalize (wa12.alloc (.cells #[.slice a8 f3.length c8] 26)) = wm12 at HB X1 X2 X3 X4 X5 X6 X7 X8 ⊢
      generalize wa12.heap.size = DX8 at X8 ⊢
      obtain ⟨kX3, loX3, hiX3, hhX3, nX3⟩ := X3.out
      obtain ⟨kX6, loX6, hiX6, hhX6, nX6⟩ := X6.out
      have C := Lib.hid (sumI_calls _ _ f3 q s t HT HS wm12 loX3 hiX3 loX6 hiX6 hhX3 hhX6 nX3 nX6)
      clear hhX3 nX3 hhX6 nX6
      go_wp2_with fail
      refine C.out.mono ?_
      rintro e wa13 ⟨a9, c9, vs9, rfl, ho, hb⟩
      have hst := below_via hb (below_new wa13 (.cells #[.slice a9 s.length c9] 26))
      replace HB := Lib.hid (below_via HB.out hst)
      replace X1 := Lib.hid (X1.out.step hst)
      replace X2 := Lib.hid (X2.out.step hst)
      replace X3 := Lib.hid (X3.out.step hst)
      replace X4 := Lib.hid (X4.out.step hst)
      replace X5 := Lib.hid (X5.out.step hst)
      replace X6 := Lib.hid (X6.out.step hst)
      replace X7 := Lib.hid (X7.out.step hst)
      replace X8 := Lib.hid (X8.out.step hst)
      have X9 := Lib.hid (BoxF.new (copyOf_nodes ho.nodesZ) 26)
      clear ho hb hst C 
      clear kX3
      clear kX6
      go_upto_region 16 with fail
      generalize (wa13.alloc (.cells #[.slice a9 s.length c9] 26)) = wm13 at HB X1 X2 X3 X4 X5 X6 X7 X8 X9 ⊢
      generalize wa13.heap.size = DX9 at X9 ⊢
      cases t with
      | false =>
        have C := Lib.hid (vSame_box X8.out.2 X3.out.2)
        have kX8 := X8.out.1
        have kX3 := X3.out.1
        go_wp2_with fail
        refine C.out.mono ?_
        rintro e wa14 ⟨rfl, hb⟩
        replace HB := Lib.hid (below_via HB.out hb)
        replace X1 := Lib.hid (X1.out.step hb)
        replace X2 := Lib.hid (X2.out.step hb)
        replace X3 := Lib.hid (X3.out.step hb)
        replace X4 := Lib.hid (X4.out.step hb)
        replace X5 := Lib.hid (X5.out.step hb)
        replace X6 := Lib.hid (X6.out.step hb)
        replace X7 := Lib.hid (X7.out.step hb)
        replace X8 := Lib.hid (X8.out.step hb)
        replace X9 := Lib.hid (X9.out.step hb)
        clear hb C kX8 kX3
        go_wp2_with fail
        go_ret
        exact ⟨rfl, HB.out⟩
      | true =>
        obtain ⟨hgs, hso⟩ := HZS.out rfl
        have HOC : Hid ((if goodB s then codeOf (!soloF (s.map downN) (s.length - 1) false) (!soloF (s.map downN) (s.length - 1) true) else 0) = 4) := Lib.hid (by rw [hgs, hso, hso]; rfl)
        have HGS := Lib.hid hgs
        clear hgs hso HZS
        obtain ⟨kX9, loX9, hiX9, hhX9, nX9⟩ := X9.out
        have C := Lib.hid (outcomeI_calls _ s 4 true HGS HOC wm13 loX9 hiX9 hhX9 nX9)
        clear hhX9 nX9
        go_wp2_with fail
        refine C.out.mono ?_
        rintro e wa14 ⟨rfl, hb⟩
        replace HB := Lib.hid (below_via HB.out hb)
        replace X1 := Lib.hid (X1.out.step hb)
        replace X2 := Lib.hid (X2.out.step hb)
        replace X3 := Lib.hid (X3.out.step hb)
        replace X4 := Lib.hid (X4.out.step hb)
        replace X5 := Lib.hid (X5.out.step hb)
        replace X6 := Lib.hid (X6.out.step hb)
        replace X7 := Lib.hid (X7.out.step hb)
        replace X8 := Lib.hid (X8.out.step hb)
        replace X9 := Lib.hid (X9.out.step hb)
        clear hb C 
        clear kX9
        have C := Lib.hid (vSame_box X8.out.2 X3.out.2)
        have kX8 := X8.out.1
        have kX3 := X3.out.1
        go_wp2_with fail
        refine C.out.mono ?_
        rintro e wa15 ⟨rfl, hb⟩
        replace HB := Lib.hid (below_via HB.out hb)
        replace X1 := Lib.hid (X1.out.step hb)
        replace X2 := Lib.hid (X2.out.step hb)
        replace X3 := Lib.hid (X3.out.step hb)
        replace X4 := Lib.hid (X4.out.step hb)
        replace X5 := Lib.hid (X5.out.step hb)
        replace X6 := Lib.hid (X6.out.step hb)
        replace X7 := Lib.hid (X7.out.step hb)
        replace X8 := Lib.hid (X8.out.step hb)
        replace X9 := Lib.hid (X9.out.step hb)
        clear hb C kX8 kX3
        go_wp2_with fail
        go_ret
        exact ⟨rfl, HB.out⟩

end Go.Proofs.YtabfdaofikccmaaGreat
