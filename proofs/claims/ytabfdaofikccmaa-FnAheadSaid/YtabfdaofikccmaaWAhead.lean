/- The walk of laws.FnAhead. -/
import Derived.Test.YtabfdaofikccmaaVBig
import Derived.Test.YtabfdaofikccmaaBoxF
import Derived.Test.YtabfdaofikccmaaAhAll
import Derived.Test.YtabfdaofikccmaaLsAll
import Derived.Test.YtabfdaofikccmaaFmSameI
namespace Go.Proofs.Ytabfdaofikccmaa
open Go.RowKit
set_option linter.unusedVariables false
set_option linter.unusedSimpArgs false

set_option maxRecDepth 100000 in
set_option maxHeartbeats 8000000 in
theorem fnAhead_walk (ao : Option Addr) (n c : Nat) (w : World) (hc : CodeIn w (.slice ao n c) n) (hnc : n ≤ c) (hm : c ≤ 9223372036854775807) (hz : ao = none → c = 0) :
    Calls Try.prog 6 #[.slice ao n c] w fun e w' => e = .returned (.bool true) ∧ Below w.heap.size w w' := by
  have HC := Lib.hid fun (W : World) (hW : Below w.heap.size w W) => hc.below hW
  have HV := Lib.hid (vBig_calls ao n c w)
  by_cases hbig : 65536 < n
  · rw [decide_eq_true hbig] at HV
    clear hc hm hz hnc
    go_enter Try.func6, Try.ntmps6
    go_wp2_with fail
    refine HV.out.mono ?_
    rintro e w1 ⟨rfl, rfl⟩
    go_wp2_with fail
    go_ret
    exact ⟨rfl, Below.refl _ _⟩
  rw [decide_eq_false hbig] at HV
  have HN := Lib.hid (show n ≤ 65536 by omega)
  have HCC := Lib.hid (And.intro hnc (And.intro hm hz))
  clear hc hm hz hnc hbig
  go_enter Try.func6, Try.ntmps6
  go_wp2_with fail
  refine HV.out.mono ?_
  rintro e w0 ⟨rfl, rfl⟩
  clear HV
  have HB := Lib.hid (Below.refl w0.heap.size w0)
  have C := Lib.hid (drawLess_calls ao n c w0 (HC.out _ HB.out) (by have := HN.out; omega))
  go_wp2_with fail
  refine C.out.mono ?_
  rintro e wd1 ⟨a1, c1, f1, a2, c2, f2, rfl, hz1, hz2, hb⟩
  replace HB := Lib.hid (below_via HB.out hb)
  have Q1 := Lib.hid (copyOf_nodes hz1)
  have Q2 := Lib.hid (copyOf_nodes hz2)
  clear hz1 hz2
  clear hb C
  obtain ⟨hx1, hx2, hst⟩ := two_boxes Q1.out Q2.out 28
  have X1 := Lib.hid hx1
  have X2 := Lib.hid hx2
  replace HB := Lib.hid (below_via HB.out hst)
  clear hst hx1 hx2 Q1 Q2
  go_upto_region 4 with fail
  generalize ((wd1.alloc (.cells #[.slice a1 f1.length c1] 28)).alloc (.cells #[.slice a2 f2.length c2] 28)) = wm2 at HB X1 X2 ⊢
  generalize wd1.heap.size = DB at X1 X2 ⊢
  clear HC HN HCC
  obtain ⟨ok, hok⟩ : ∃ z, (goodB f1 && goodB f2) = z := ⟨_, rfl⟩
  obtain ⟨x, hx⟩ : ∃ z, (lessV f1 f2) = z := ⟨_, rfl⟩
  obtain ⟨y, hy⟩ : ∃ z, (lessV f2 f1) = z := ⟨_, rfl⟩
  have HM : Hid ((ok = false → x = false) ∧ (ok = true → f1 ≠ f2 → y = !x) ∧ (f1 = f2 → x = false ∧ y = false)) := Lib.hid ⟨fun h => by rw [← hx]; unfold lessV; rw [hok, h]; rfl, fun h hne => by
    rw [← hok, Bool.and_eq_true] at h
    rw [← hx, ← hy]
    exact less_turn h.1 h.2 hne, fun h => by
    subst h
    rw [← hx, ← hy]
    exact ⟨less_self _, less_self _⟩⟩
  have Hok := Lib.hid hok
  have Hok2 : Hid ((goodB f2 && goodB f1) = ok) := Lib.hid (by rw [Bool.and_comm]; exact hok)
  have Hx := Lib.hid hx
  have Hy := Lib.hid hy
  clear hok hx hy
  obtain ⟨kX1, loX1, hiX1, hhX1, nX1⟩ := X1.out
  obtain ⟨kX2, loX2, hiX2, hhX2, nX2⟩ := X2.out
  have C := Lib.hid (lessI_calls _ _ f1 f2 x ok Hok Hx wm2 loX1 hiX1 loX2 hiX2 hhX1 hhX2 nX1 nX2)
  clear hhX1 nX1 hhX2 nX2
  go_wp2_with fail
  refine C.out.mono ?_
  rintro e wa3 ⟨rfl, hb⟩
  replace HB := Lib.hid (below_via HB.out hb)
  replace X1 := Lib.hid (X1.out.step hb)
  replace X2 := Lib.hid (X2.out.step hb)
  clear hb C 
  clear kX1
  clear kX2
  obtain ⟨kX1, loX1, hiX1, hhX1, nX1⟩ := X1.out
  obtain ⟨kX2, loX2, hiX2, hhX2, nX2⟩ := X2.out
  have C := Lib.hid (lessS_calls _ _ f1 f2 x ok Hok Hx wa3 loX1 hiX1 loX2 hiX2 hhX1 hhX2 nX1 nX2)
  clear hhX1 nX1 hhX2 nX2
  go_wp2_with fail
  refine C.out.mono ?_
  rintro e wa4 ⟨rfl, hb⟩
  replace HB := Lib.hid (below_via HB.out hb)
  replace X1 := Lib.hid (X1.out.step hb)
  replace X2 := Lib.hid (X2.out.step hb)
  clear hb C 
  clear kX1
  clear kX2
  obtain ⟨kX2, loX2, hiX2, hhX2, nX2⟩ := X2.out
  obtain ⟨kX1, loX1, hiX1, hhX1, nX1⟩ := X1.out
  have C := Lib.hid (lessI_calls _ _ f2 f1 y ok Hok2 Hy wa4 loX2 hiX2 loX1 hiX1 hhX2 hhX1 nX2 nX1)
  clear hhX2 nX2 hhX1 nX1
  go_wp2_with fail
  refine C.out.mono ?_
  rintro e wa5 ⟨rfl, hb⟩
  replace HB := Lib.hid (below_via HB.out hb)
  replace X1 := Lib.hid (X1.out.step hb)
  replace X2 := Lib.hid (X2.out.step hb)
  clear hb C 
  clear kX2
  clear kX1
  clear Hok Hok2 Hx Hy
  have e1 : (x != x) = false := by simp
  have e2 : (ok != ok) = false := by simp
  cases ok with
  | false =>
    obtain rfl := HM.out.1 rfl
    go_wp2_with fail
    go_ret
    exact ⟨rfl, HB.out⟩
  | true =>
    by_cases hf : f1 = f2
    · obtain ⟨rfl, rfl⟩ := HM.out.2.2 hf
      have hd : decide (f1 = f2) = true := decide_eq_true hf
      obtain ⟨kX1, loX1, hiX1, hhX1, nX1⟩ := X1.out
      obtain ⟨kX2, loX2, hiX2, hhX2, nX2⟩ := X2.out
      have C := Lib.hid (sameI_calls _ _ f1 f2 wa5 loX1 hiX1 loX2 hiX2 hhX1 hhX2 nX1 nX2)
      rw [hd] at C
      clear hhX1 hhX2 nX1 nX2 hd hf HM
      go_wp2_with fail
      refine C.out.mono ?_
      rintro e wy ⟨rfl, hb⟩
      replace HB := Lib.hid (below_via HB.out hb)
      clear hb C kX1 kX2
      go_wp2_with fail
      go_ret
      exact ⟨rfl, HB.out⟩
    · have hy := HM.out.2.1 rfl hf
      subst hy
      have hd : decide (f1 = f2) = false := decide_eq_false hf
      have e3 : (x != !x) = true := by simp
      obtain ⟨kX1, loX1, hiX1, hhX1, nX1⟩ := X1.out
      obtain ⟨kX2, loX2, hiX2, hhX2, nX2⟩ := X2.out
      have C := Lib.hid (sameI_calls _ _ f1 f2 wa5 loX1 hiX1 loX2 hiX2 hhX1 hhX2 nX1 nX2)
      rw [hd] at C
      clear hhX1 hhX2 nX1 nX2 hd hf HM
      go_wp2_with fail
      refine C.out.mono ?_
      rintro e wy ⟨rfl, hb⟩
      replace HB := Lib.hid (below_via HB.out hb)
      clear hb C kX1 kX2
      go_wp2_with fail
      go_ret
      exact ⟨rfl, HB.out⟩

end Go.Proofs.Ytabfdaofikccmaa
