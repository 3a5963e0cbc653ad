/- The walk of laws.FnTimes. -/
import Derived.Test.YtabfdaofikccmaaGreatBoxF
import Derived.Test.YtabfdaofikccmaaGreatDrTm
import Derived.Test.YtabfdaofikccmaaGreatTmAll
import Derived.Test.YtabfdaofikccmaaGreatInAll
import Derived.Test.YtabfdaofikccmaaGreatSpAll
import Derived.Test.YtabfdaofikccmaaGreatMyAll
namespace Go.Proofs.YtabfdaofikccmaaGreat
open Go.RowKit
set_option linter.unusedVariables false
set_option linter.unusedSimpArgs false

set_option maxRecDepth 100000 in
set_option maxHeartbeats 8000000 in
theorem fnTimes_walk (ao : Option Addr) (n c : Nat) (w : World) (hc : CodeIn w (.slice ao n c) n) (hnc : n ≤ c) (hm : c ≤ 9223372036854775807) (hz : ao = none → c = 0) :
    Calls Tryz.prog 5 #[.slice ao n c] w fun e w' => e = .returned (.bool true) ∧ Below w.heap.size w w' := by
  have HC := Lib.hid fun (W : World) (hW : Below w.heap.size w W) => hc.below hW
  have HV := Lib.hid (vBig_calls ao n c w)
  by_cases hbig : 65536 < n
  · rw [decide_eq_true hbig] at HV
    clear hc hm hz hnc
    go_enter Tryz.func5, Tryz.ntmps5
    go_wp2_with fail
    refine HV.out.mono ?_
    rintro e w1 ⟨rfl, rfl⟩
    go_wp2_with fail
    go_ret
    exact ⟨rfl, Below.refl _ _⟩
  rw [decide_eq_false hbig] at HV
  have HN := Lib.hid (show n ≤ 65536 by omega)
  have HCC := Lib.hid (And.intro hnc (And.intro hm hz))
  clear hc hm hz hnc hbig
  go_enter Tryz.func5, Tryz.ntmps5
  go_wp2_with fail
  refine HV.out.mono ?_
  rintro e w0 ⟨rfl, rfl⟩
  clear HV
  have HB := Lib.hid (Below.refl w0.heap.size w0)
  have C := Lib.hid (drawTimes_calls ao n c w0 (HC.out _ HB.out) (by have := HN.out; omega))
  go_wp2_with fail
  refine C.out.mono ?_
  rintro e wd1 ⟨k, a1, c1, f1, rfl, hk, hz, hb⟩
  have Q1 := Lib.hid (copyOf_nodes hz)
  replace HB := Lib.hid (below_via HB.out hb)
  clear hb C hz
  obtain ⟨hx1, hst⟩ := one_box Q1.out 26
  have X1 := Lib.hid hx1
  replace HB := Lib.hid (below_via HB.out hst)
  clear hst hx1 Q1
  go_upto_region 4 with fail
  generalize (wd1.alloc (.cells #[.slice a1 f1.length c1] 26)) = wm2 at HB X1 ⊢
  generalize wd1.heap.size = DB at X1 ⊢
  clear HC HN HCC
  obtain ⟨p, hp⟩ : ∃ x, tmV k f1 = x := ⟨_, rfl⟩
  obtain ⟨ok, hok⟩ : ∃ x, tmOk k f1 = x := ⟨_, rfl⟩
  have HP := Lib.hid hp
  have HOK := Lib.hid hok
  clear hp hok
  obtain ⟨kX1, loX1, hiX1, hhX1, nX1⟩ := X1.out
  have C := Lib.hid (timesI_calls _ k f1 p ok HOK HP wm2 loX1 hiX1 hhX1 nX1)
  clear hhX1 nX1
  go_wp2_with fail
  refine C.out.mono ?_
  rintro e wa3 ⟨a2, c2, vs2, rfl, ho, hb⟩
  have hst := below_via hb (below_new wa3 (.cells #[.slice a2 p.length c2] 26))
  replace HB := Lib.hid (below_via HB.out hst)
  replace X1 := Lib.hid (X1.out.step hst)
  have X2 := Lib.hid (BoxF.new (copyOf_nodes ho.nodesZ) 26)
  clear ho hb hst C 
  clear kX1
  go_upto_region 5 with fail
  generalize (wa3.alloc (.cells #[.slice a2 p.length c2] 26)) = wm3 at HB X1 X2 ⊢
  generalize wa3.heap.size = DX2 at X2 ⊢
  obtain ⟨kX1, loX1, hiX1, hhX1, nX1⟩ := X1.out
  have C := Lib.hid (timesS_calls _ k f1 p ok HOK HP wm3 loX1 hiX1 hhX1 nX1)
  clear hhX1 nX1
  go_wp2_with fail
  refine C.out.mono ?_
  rintro e wa4 ⟨a3, c3, rfl, ho, hb⟩
  have hst := below_via hb (below_new wa4 (.cells #[.slice a3 p.length c3] 26))
  replace HB := Lib.hid (below_via HB.out hst)
  replace X1 := Lib.hid (X1.out.step hst)
  replace X2 := Lib.hid (X2.out.step hst)
  have X3 := Lib.hid (BoxF.new (copyOf_nodes ho) 26)
  clear ho hb hst C 
  clear kX1
  go_upto_region 6 with fail
  generalize (wa4.alloc (.cells #[.slice a3 p.length c3] 26)) = wm4 at HB X1 X2 X3 ⊢
  generalize wa4.heap.size = DX3 at X3 ⊢
  have e2 : (ok != ok) = false := by simp
  have C := Lib.hid (vSame_box X2.out.2 X3.out.2)
  have kX2 := X2.out.1
  have kX3 := X3.out.1
  go_wp2_with fail
  refine C.out.mono ?_
  rintro e wa5 ⟨rfl, hb⟩
  replace HB := Lib.hid (below_via HB.out hb)
  replace X1 := Lib.hid (X1.out.step hb)
  replace X2 := Lib.hid (X2.out.step hb)
  replace X3 := Lib.hid (X3.out.step hb)
  clear hb C kX2 kX3
  clear e2
  cases ok with
  | false =>
    obtain ⟨q, hq⟩ : ∃ x, tmV (-k) f1 = x := ⟨_, rfl⟩
    obtain ⟨too, ht⟩ : ∃ x, tmOk (-k) f1 = x := ⟨_, rfl⟩
    obtain ⟨z, hz⟩ : ∃ x, negV q = x := ⟨_, rfl⟩
    obtain ⟨fine, hfi⟩ : ∃ x, goodB q = x := ⟨_, rfl⟩
    have HQ := Lib.hid hq
    have HT := Lib.hid ht
    have HZZ := Lib.hid hz
    have HFI := Lib.hid hfi
    clear hq ht hz hfi
    have i1 : IntKind.i64.wrap (-k) = -k := IntWalk.i64_in _ (by omega)
    obtain ⟨kX1, loX1, hiX1, hhX1, nX1⟩ := X1.out
    have C := Lib.hid (timesI_calls _ (-k) f1 q too HT HQ wa5 loX1 hiX1 hhX1 nX1)
    clear hhX1 nX1
    go_wp2_with fail
    refine C.out.mono ?_
    rintro e wa6 ⟨a4, c4, vs4, rfl, ho, hb⟩
    have hst := below_via hb (below_new wa6 (.cells #[.slice a4 q.length c4] 26))
    replace HB := Lib.hid (below_via HB.out hst)
    replace X1 := Lib.hid (X1.out.step hst)
    replace X2 := Lib.hid (X2.out.step hst)
    replace X3 := Lib.hid (X3.out.step hst)
    have X4 := Lib.hid (BoxF.new (copyOf_nodes ho.nodesZ) 26)
    clear ho hb hst C 
    clear kX1
    go_upto_region 10 with fail
    generalize (wa6.alloc (.cells #[.slice a4 q.length c4] 26)) = wm6 at HB X1 X2 X3 X4 ⊢
    generalize wa6.heap.size = DX4 at X4 ⊢
    obtain ⟨kX4, loX4, hiX4, hhX4, nX4⟩ := X4.out
    have C := Lib.hid (negI_calls _ q z fine HFI HZZ wm6 loX4 hiX4 hhX4 nX4)
    clear hhX4 nX4
    go_wp2_with fail
    refine C.out.mono ?_
    rintro e wa7 ⟨a5, c5, vs5, rfl, ho, hb⟩
    have hst := below_via hb (below_new wa7 (.cells #[.slice a5 z.length c5] 26))
    replace HB := Lib.hid (below_via HB.out hst)
    replace X1 := Lib.hid (X1.out.step hst)
    replace X2 := Lib.hid (X2.out.step hst)
    replace X3 := Lib.hid (X3.out.step hst)
    replace X4 := Lib.hid (X4.out.step hst)
    have X5 := Lib.hid (BoxF.new (copyOf_nodes ho.nodesZ) 26)
    clear ho hb hst C 
    clear kX4
    go_upto_region 11 with fail
    generalize (wa7.alloc (.cells #[.slice a5 z.length c5] 26)) = wm7 at HB X1 X2 X3 X4 X5 ⊢
    generalize wa7.heap.size = DX5 at X5 ⊢
    go_wp2_with fail
    go_ret
    exact ⟨rfl, HB.out⟩
  | true =>
    by_cases hk0 : k ≤ 0
    · skip
      obtain ⟨q, hq⟩ : ∃ x, tmV (-k) f1 = x := ⟨_, rfl⟩
      obtain ⟨too, ht⟩ : ∃ x, tmOk (-k) f1 = x := ⟨_, rfl⟩
      obtain ⟨z, hz⟩ : ∃ x, negV q = x := ⟨_, rfl⟩
      obtain ⟨fine, hfi⟩ : ∃ x, goodB q = x := ⟨_, rfl⟩
      have HM : Hid (too = true ∧ fine = true ∧ z = p) := Lib.hid (by have h := tm_turn HOK.out hk0; rw [← ht, ← hfi, ← hz, ← hq, ← HP.out]; exact h)
      have HQ := Lib.hid hq
      have HT := Lib.hid ht
      have HZZ := Lib.hid hz
      have HFI := Lib.hid hfi
      clear hq ht hz hfi
      have i1 : IntKind.i64.wrap (-k) = -k := IntWalk.i64_in _ (by omega)
      obtain ⟨kX1, loX1, hiX1, hhX1, nX1⟩ := X1.out
      have C := Lib.hid (timesI_calls _ (-k) f1 q too HT HQ wa5 loX1 hiX1 hhX1 nX1)
      clear hhX1 nX1
      go_wp2_with fail
      refine C.out.mono ?_
      rintro e wa6 ⟨a4, c4, vs4, rfl, ho, hb⟩
      have hst := below_via hb (below_new wa6 (.cells #[.slice a4 q.length c4] 26))
      replace HB := Lib.hid (below_via HB.out hst)
      replace X1 := Lib.hid (X1.out.step hst)
      replace X2 := Lib.hid (X2.out.step hst)
      replace X3 := Lib.hid (X3.out.step hst)
      have X4 := Lib.hid (BoxF.new (copyOf_nodes ho.nodesZ) 26)
      clear ho hb hst C 
      clear kX1
      go_upto_region 10 with fail
      generalize (wa6.alloc (.cells #[.slice a4 q.length c4] 26)) = wm6 at HB X1 X2 X3 X4 ⊢
      generalize wa6.heap.size = DX4 at X4 ⊢
      obtain ⟨kX4, loX4, hiX4, hhX4, nX4⟩ := X4.out
      have C := Lib.hid (negI_calls _ q z fine HFI HZZ wm6 loX4 hiX4 hhX4 nX4)
      clear hhX4 nX4
      go_wp2_with fail
      refine C.out.mono ?_
      rintro e wa7 ⟨a5, c5, vs5, rfl, ho, hb⟩
      have hst := below_via hb (below_new wa7 (.cells #[.slice a5 z.length c5] 26))
      replace HB := Lib.hid (below_via HB.out hst)
      replace X1 := Lib.hid (X1.out.step hst)
      replace X2 := Lib.hid (X2.out.step hst)
      replace X3 := Lib.hid (X3.out.step hst)
      replace X4 := Lib.hid (X4.out.step hst)
      have X5 := Lib.hid (BoxF.new (copyOf_nodes ho.nodesZ) 26)
      clear ho hb hst C 
      clear kX4
      go_upto_region 11 with fail
      generalize (wa7.alloc (.cells #[.slice a5 z.length c5] 26)) = wm7 at HB X1 X2 X3 X4 X5 ⊢
      generalize wa7.heap.size = DX5 at X5 ⊢
      obtain ⟨rfl, rfl, rfl⟩ := HM.out
      by_cases hk1 : k = 0
      · subst hk1
        go_wp2_with fail
        go_ret
        exact ⟨rfl, HB.out⟩
      · have hk2 : (k == 0) = false := by simp [hk1]
        have C := Lib.hid (vSame_box X5.out.2 X2.out.2)
        have kX5 := X5.out.1
        have kX2 := X2.out.1
        go_wp2_with fail
        refine C.out.mono ?_
        rintro e wa8 ⟨rfl, hb⟩
        replace HB := Lib.hid (below_via HB.out hb)
        replace X1 := Lib.hid (X1.out.step hb)
        replace X2 := Lib.hid (X2.out.step hb)
        replace X3 := Lib.hid (X3.out.step hb)
        replace X4 := Lib.hid (X4.out.step hb)
        replace X5 := Lib.hid (X5.out.step hb)
        clear hb C kX5 kX2
        go_wp2_with fail
        go_ret
        exact ⟨rfl, HB.out⟩
    · have hk3 : 0 < k := by omega
      have i1 : IntKind.i64.wrap (k - 1) = k - 1 := IntWalk.i64_in _ (by omega)
      obtain ⟨q, hq⟩ : ∃ x, tmV (k - 1) f1 = x := ⟨_, rfl⟩
      have HM : Hid (tmOk (k - 1) f1 = true ∧ sumOk q f1 = true ∧ sumV q f1 = p) := Lib.hid (by have h := tm_step HOK.out hk3; rw [hq, HP.out] at h; exact h)
      have HQ := Lib.hid hq
      clear hq
      have H1 := Lib.hid HM.out.1
      have H2 := Lib.hid HM.out.2.1
      have H3 := Lib.hid HM.out.2.2
      obtain ⟨kX1, loX1, hiX1, hhX1, nX1⟩ := X1.out
      have C := Lib.hid (timesI_calls _ (k - 1) f1 q true H1 HQ wa5 loX1 hiX1 hhX1 nX1)
      clear hhX1 nX1
      go_wp2_with fail
      refine C.out.mono ?_
      rintro e wa6 ⟨a4, c4, vs4, rfl, ho, hb⟩
      have hst := below_via hb (below_new wa6 (.cells #[.slice a4 q.length c4] 26))
      replace HB := Lib.hid (below_via HB.out hst)
      replace X1 := Lib.hid (X1.out.step hst)
      replace X2 := Lib.hid (X2.out.step hst)
      replace X3 := Lib.hid (X3.out.step hst)
      have X4 := Lib.hid (BoxF.new (copyOf_nodes ho.nodesZ) 26)
      clear ho hb hst C 
      clear kX1
      go_upto_region 13 with fail
      generalize (wa6.alloc (.cells #[.slice a4 q.length c4] 26)) = wm6 at HB X1 X2 X3 X4 ⊢
      generalize wa6.heap.size = DX4 at X4 ⊢
      obtain ⟨kX4, loX4, hiX4, hhX4, nX4⟩ := X4.out
      obtain ⟨kX1, loX1, hiX1, hhX1, nX1⟩ := X1.out
      have C := Lib.hid (sumI_calls _ _ q f1 p true H2 H3 wm6 loX4 hiX4 loX1 hiX1 hhX4 hhX1 nX4 nX1)
      clear hhX4 nX4 hhX1 nX1
      go_wp2_with fail
      refine C.out.mono ?_
      rintro e wa7 ⟨a5, c5, vs5, rfl, ho, hb⟩
      have hst := below_via hb (below_new wa7 (.cells #[.slice a5 p.length c5] 26))
      replace HB := Lib.hid (below_via HB.out hst)
      replace X1 := Lib.hid (X1.out.step hst)
      replace X2 := Lib.hid (X2.out.step hst)
      replace X3 := Lib.hid (X3.out.step hst)
      replace X4 := Lib.hid (X4.out.step hst)
      have X5 := Lib.hid (BoxF.new (copyOf_nodes ho.nodesZ) 26)
      clear ho hb hst C 
      clear kX4
      clear kX1
      go_upto_region 14 with fail
      generalize (wa7.alloc (.cells #[.slice a5 p.length c5] 26)) = wm7 at HB X1 X2 X3 X4 X5 ⊢
      generalize wa7.heap.size = DX5 at X5 ⊢
      have C := Lib.hid (vSame_box X2.out.2 X5.out.2)
      have kX2 := X2.out.1
      have kX5 := X5.out.1
      go_wp2_with fail
      refine C.out.mono ?_
      rintro e wa8 ⟨rfl, hb⟩
      replace HB := Lib.hid (below_via HB.out hb)
      replace X1 := Lib.hid (X1.out.step hb)
      replace X2 := Lib.hid (X2.out.step hb)
      replace X3 := Lib.hid (X3.out.step hb)
      replace X4 := Lib.hid (X4.out.step hb)
      replace X5 := Lib.hid (X5.out.step hb)
      clear hb C kX2 kX5
      go_wp2_with fail
      go_ret
      exact ⟨rfl, HB.out⟩

end Go.Proofs.YtabfdaofikccmaaGreat
