/- The walk of laws.FnWinning. -/
import Derived.Test.YtabfdaofikccmaaVBig
import Derived.Test.YtabfdaofikccmaaCoAll
import Derived.Test.YtabfdaofikccmaaWnAll
import Derived.Test.YtabfdaofikccmaaOrAll
import Derived.Test.YtabfdaofikccmaaOsAll
import Derived.Test.YtabfdaofikccmaaOpAll
namespace Go.Proofs.Ytabfdaofikccmaa
open Go.RowKit
set_option linter.unusedVariables false
set_option linter.unusedSimpArgs false

set_option maxRecDepth 100000 in
set_option maxHeartbeats 8000000 in
theorem fnWinning_walk (ao : Option Addr) (n c : Nat) (w : World) (hc : CodeIn w (.slice ao n c) n) (hnc : n ≤ c) (hm : c ≤ 9223372036854775807) (hz : ao = none → c = 0) :
    Calls Try.prog 4 #[.slice ao n c] w fun e w' => e = .returned (.bool true) ∧ Below w.heap.size w w' := by
  have HC := Lib.hid fun (W : World) (hW : Below w.heap.size w W) => hc.below hW
  have HV := Lib.hid (vBig_calls ao n c w)
  by_cases hbig : 65536 < n
  · rw [decide_eq_true hbig] at HV
    clear hc hm hz hnc
    go_enter Try.func4, Try.ntmps4
    go_wp2_with fail
    refine HV.out.mono ?_
    rintro e w1 ⟨rfl, rfl⟩
    go_wp2_with fail
    go_ret
    exact ⟨rfl, Below.refl _ _⟩
  rw [decide_eq_false hbig] at HV
  have HN := Lib.hid (show n ≤ 65536 by omega)
  have HCC := Lib.hid (And.intro hnc (And.intro hm hz))
  clear hc hm hz hnc hbig
  go_enter Try.func4, Try.ntmps4
  go_wp2_with fail
  refine HV.out.mono ?_
  rintro e w0 ⟨rfl, rfl⟩
  clear HV
  have HB := Lib.hid (Below.refl w0.heap.size w0)
  have C := Lib.hid (drawWinning_calls ao n c w0 (HC.out _ HB.out) (by have := HN.out; omega))
  go_wp2_with fail
  refine C.out.mono ?_
  rintro e wd1 ⟨a1, c1, f1, l, rfl, hz, hb⟩
  have Q1 := Lib.hid (copyOf_nodes hz)
  replace HB := Lib.hid (below_via HB.out hb)
  clear hb C hz
  obtain ⟨hx1, hst⟩ := one_box Q1.out 28
  have X1 := Lib.hid hx1
  replace HB := Lib.hid (below_via HB.out hst)
  clear hst hx1 Q1
  go_upto_region 4 with fail
  generalize (wd1.alloc (.cells #[.slice a1 f1.length c1] 28)) = wm2 at HB X1 ⊢
  generalize wd1.heap.size = DB at X1 ⊢
  clear HC HN HCC
  obtain ⟨ok, hok⟩ : ∃ z, (goodB f1) = z := ⟨_, rfl⟩
  obtain ⟨ms, hms⟩ : ∃ z, (movesV f1 l) = z := ⟨_, rfl⟩
  obtain ⟨wins, hwins⟩ : ∃ z, (goodB f1 && soloF (f1.map downN) (f1.length - 1) l) = z := ⟨_, rfl⟩
  obtain ⟨G1, hG1⟩ : ∃ z, (optV f1 true) = z := ⟨_, rfl⟩
  obtain ⟨G2, hG2⟩ : ∃ z, (optV f1 false) = z := ⟨_, rfl⟩
  have HM0 : Hid (ok = false → ms = []) := Lib.hid (fun h => by rw [← hms]; unfold movesV; rw [hok, h]; rfl)
  have HM1 : Hid (ok = true → wins = decide (0 < ms.length)) := Lib.hid (fun h => by rw [← hwins, ← hms, hok, h, Bool.true_and]; exact wn_wins (hok.trans h) l)
  have HM2 : Hid (ok = true → ∀ (i : Nat) (g : List Nz), (if l then G1 else G2)[i]? = some g → goodB g = true ∧ decide ((i : Int) ∈ ms) = !soloF (g.map downN) (g.length - 1) (!l)) := Lib.hid (fun h i g hg => by
    rw [← hms]
    refine wn_opt (hok.trans h) l ?_
    rw [← hG1, ← hG2] at hg
    cases l
    · exact hg
    · exact hg)
  have Hok := Lib.hid hok
  have Hms := Lib.hid hms
  have Hwins := Lib.hid hwins
  have HG1 := Lib.hid hG1
  have HG2 := Lib.hid hG2
  clear hok hms hwins hG1 hG2
  obtain ⟨kX1, loX1, hiX1, hhX1, nX1⟩ := X1.out
  have C := Lib.hid (winningI_calls _ f1 l ok ms Hok Hms wm2 loX1 hiX1 hhX1 nX1)
  clear hhX1 nX1
  go_wp2_with fail
  refine C.out.mono ?_
  rintro e wa3 ⟨v, rfl, ho, hb⟩
  have hcp := copyI_own ho
  obtain ⟨g5, c5, hv⟩ := hcp.shape
  subst hv
  have I5 := Lib.hid hcp
  replace HB := Lib.hid (below_via HB.out hb)
  replace X1 := Lib.hid (X1.out.step hb)
  clear hb ho hcp C kX1
  obtain ⟨kX1, loX1, hiX1, hhX1, nX1⟩ := X1.out
  have C := Lib.hid (winningS_calls _ f1 l ok ms Hok Hms wa3 loX1 hiX1 hhX1 nX1)
  clear hhX1 nX1
  go_wp2_with fail
  refine C.out.mono ?_
  rintro e wa4 ⟨v, rfl, ho, hb⟩
  have hcp := copyI_own ho
  obtain ⟨g7, c7, hv⟩ := hcp.shape
  subst hv
  replace I5 := Lib.hid (I5.out.below hb)
  have I7 := Lib.hid hcp
  replace HB := Lib.hid (below_via HB.out hb)
  replace X1 := Lib.hid (X1.out.step hb)
  clear hb ho hcp C kX1
  have e1 : (ok != ok) = false := by simp
  have C := Lib.hid (vInts_copy I5.out I7.out)
  go_wp2_with fail
  refine C.out.mono ?_
  rintro e w5 ⟨rfl, hb⟩
  replace HB := Lib.hid (below_via HB.out hb)
  replace I5 := Lib.hid (I5.out.below hb)
  replace X1 := Lib.hid (X1.out.step hb)
  clear hb C e1 I7 Hms
  cases ok with
  | false =>
    obtain rfl := HM0.out rfl
    go_wp2_with fail
    go_ret
    exact ⟨rfl, HB.out⟩
  | true =>
    have hwn := HM1.out rfl
    have HWN := Lib.hid hwn
    have HOP := Lib.hid (HM2.out rfl)
    clear hwn HM0 HM1 HM2
    obtain ⟨kX1, loX1, hiX1, hhX1, nX1⟩ := X1.out
    have C := Lib.hid (winsMovingI_calls _ f1 l wins true Hok Hwins w5 loX1 hiX1 hhX1 nX1)
    clear hhX1 nX1
    go_wp2_with fail
    refine C.out.mono ?_
    rintro e w6 ⟨rfl, hb⟩
    replace HB := Lib.hid (below_via HB.out hb)
    replace I5 := Lib.hid (I5.out.below hb)
    replace X1 := Lib.hid (X1.out.step hb)
    clear hb C kX1
    obtain ⟨kX1, loX1, hiX1, hhX1, nX1⟩ := X1.out
    have C := Lib.hid (optionsS_calls _ f1 G1 G2 true Hok HG1 HG2 w6 loX1 hiX1 hhX1 nX1)
    clear hhX1 nX1
    go_wp2_with fail
    refine C.out.mono ?_
    rintro e w7 ⟨p1, q1, p2, q2, rfl, hF1, hF2, hb⟩
    replace HB := Lib.hid (below_via HB.out hb)
    replace I5 := Lib.hid (I5.out.below hb)
    have F1 : Hid (CopyFs w7 (.slice p1 G1.length q1) G1) := Lib.hid ⟨_, _, Nat.le_refl _, hF1⟩
    have F2 : Hid (CopyFs w7 (.slice p2 G2.length q2) G2) := Lib.hid ⟨_, _, Nat.le_refl _, hF2⟩
    clear hb C kX1 hF1 hF2 X1 Hok Hwins HG1 HG2
    cases l with
    | false =>
      have HOPG : Hid (∀ (i : Nat) (g : List Nz), G2[i]? = some g → goodB g = true ∧ decide ((i : Int) ∈ ms) = !soloF (g.map downN) (g.length - 1) true) := Lib.hid (fun i g hg => HOP.out i g hg)
      have hcm := I5.out.cap
      have hcg := F2.out.cap
      clear HOP F1
      go_wp2
      go_loopw [14] (fun i wr => ∃ k : Nat, k ≤ G2.length ∧ i = .int .i64 k ∧ Hid (Below w7.heap.size w7 wr)) (fun i _ => G2.length - (intOf i).toNat)
      case atStart => exact ⟨0, Nat.zero_le _, rfl, Lib.hid (Below.refl _ _)⟩
      case round =>
        obtain ⟨k, hk, rfl, hB⟩ := hrel
        have k0 : (0 : Int) ≤ k := by omega
        by_cases hlt : k < G2.length
        · have k1 : (k : Int) < G2.length := by omega
          obtain ⟨g, hg⟩ := lt_get hlt
          obtain ⟨hgg, hmem⟩ := HOPG.out k g hg
          obtain ⟨b, off, vx, ex, px, cx⟩ := (F2.out.below hB.out).at_ hg
          subst ex
          obtain ⟨lo, hi, hh, hn⟩ := cx
          obtain ⟨av, cv, hvx⟩ : ∃ a c, vx = .slice a g.length c := by obtain ⟨a, c, e, _⟩ := hn; exact ⟨a, c, e⟩
          subst hvx
          obtain ⟨s, hs⟩ : ∃ s, soloF (g.map downN) (g.length - 1) true = s := ⟨_, rfl⟩
          rw [hs] at hmem
          have C := Lib.hid (winsMovingI_calls _ g true s true (Lib.hid hgg) (Lib.hid (by rw [hgg, hs]; rfl)) wr lo hi hh hn)
          have HMEM := Lib.hid hmem
          clear hmem hs hgg hn hh hg
          go_wp2_with fail
          refine C.out.mono ?_
          rintro e w8 ⟨rfl, hb⟩
          have HB8 := Lib.hid (below_via hB.out hb)
          clear hb C hB px
          have J5 := Lib.hid (I5.out.below HB8.out)
          go_wp2
          go_loopw [17, 18] (fun b j wr => ∃ (m : Nat) (y : Bool), m ≤ ms.length ∧ j = .int .i64 m ∧ b = .bool y ∧ Hid (y = decide ((k : Int) ∈ ms.take m)) ∧ Hid (Below w8.heap.size w8 wr)) (fun _ j _ => ms.length - (intOf j).toNat)
          case atStart => exact ⟨0, false, Nat.zero_le _, rfl, rfl, Lib.hid (by simp), Lib.hid (Below.refl _ _)⟩
          case round =>
            obtain ⟨m, y, hm, rfl, rfl, hy, hB9⟩ := hrel
            have m0 : (0 : Int) ≤ m := by omega
            by_cases hml : m < ms.length
            · have m1 : (m : Int) < ms.length := by omega
              obtain ⟨x, hx⟩ := lt_get hml
              obtain ⟨b2, off2, e2, p2'⟩ := (J5.out.below hB9.out).at_ hx
              subst e2
              have HNX := Lib.hid (find_next ms (k : Int) x m hx)
              rw [← hy.out] at HNX
              clear hx hy
              cases y with
              | true =>
                go_wp2
                go_roundw
                case rel => exact ⟨m + 1, true, by omega, by go_num, rfl, Lib.hid (by rw [← HNX.out]; rfl), hB9⟩
                case measure => simp [intOf]; omega
              | false =>
                go_wp2
                go_roundw
                case rel => exact ⟨m + 1, (x == (k : Int)), by omega, by go_num, rfl, Lib.hid (by rw [← HNX.out]; rfl), hB9⟩
                case measure => simp [intOf]; omega
            · obtain rfl : m = ms.length := by omega
              have hys : y = !s := by rw [hy.out, List.take_length]; exact HMEM.out
              subst hys
              have e3 : ((!s) == s) = false := by cases s <;> rfl
              have HB10 := Lib.hid (below_via HB8.out hB9.out)
              clear hy hB9 HMEM J5
              go_wp2
              go_roundw
              case rel => exact ⟨k + 1, by omega, by go_num, HB10⟩
              case measure => simp [intOf]; omega
        · have k1 : ¬ (k : Int) < G2.length := by omega
          replace HB := Lib.hid (below_via HB.out hB.out)
          clear hB
          by_cases hp : 0 < ms.length
          · obtain rfl : wins = true := by rw [HWN.out]; exact decide_eq_true hp
            have hp1 : (0 : Int) < ms.length := by omega
            go_wp2_with fail
            go_ret
            exact ⟨by simp, HB.out⟩
          · obtain rfl : wins = false := by rw [HWN.out]; exact decide_eq_false hp
            have hp1 : ¬ (0 : Int) < ms.length := by omega
            go_wp2_with fail
            go_ret
            exact ⟨by simp, HB.out⟩
    | true =>
      have HOPG : Hid (∀ (i : Nat) (g : List Nz), G1[i]? = some g → goodB g = true ∧ decide ((i : Int) ∈ ms) = !soloF (g.map downN) (g.length - 1) false) := Lib.hid (fun i g hg => HOP.out i g hg)
      have hcm := I5.out.cap
      have hcg := F1.out.cap
      clear HOP F2
      go_wp2
      go_loopw [14] (fun i wr => ∃ k : Nat, k ≤ G1.length ∧ i = .int .i64 k ∧ Hid (Below w7.heap.size w7 wr)) (fun i _ => G1.length - (intOf i).toNat)
      case atStart => exact ⟨0, Nat.zero_le _, rfl, Lib.hid (Below.refl _ _)⟩
      case round =>
        obtain ⟨k, hk, rfl, hB⟩ := hrel
        have k0 : (0 : Int) ≤ k := by omega
        by_cases hlt : k < G1.length
        · have k1 : (k : Int) < G1.length := by omega
          obtain ⟨g, hg⟩ := lt_get hlt
          obtain ⟨hgg, hmem⟩ := HOPG.out k g hg
          obtain ⟨b, off, vx, ex, px, cx⟩ := (F1.out.below hB.out).at_ hg
          subst ex
          obtain ⟨lo, hi, hh, hn⟩ := cx
          obtain ⟨av, cv, hvx⟩ : ∃ a c, vx = .slice a g.length c := by obtain ⟨a, c, e, _⟩ := hn; exact ⟨a, c, e⟩
          subst hvx
          obtain ⟨s, hs⟩ : ∃ s, soloF (g.map downN) (g.length - 1) false = s := ⟨_, rfl⟩
          rw [hs] at hmem
          have C := Lib.hid (winsMovingI_calls _ g false s true (Lib.hid hgg) (Lib.hid (by rw [hgg, hs]; rfl)) wr lo hi hh hn)
          have HMEM := Lib.hid hmem
          clear hmem hs hgg hn hh hg
          go_wp2_with fail
          refine C.out.mono ?_
          rintro e w8 ⟨rfl, hb⟩
          have HB8 := Lib.hid (below_via hB.out hb)
          clear hb C hB px
          have J5 := Lib.hid (I5.out.below HB8.out)
          go_wp2
          go_loopw [17, 18] (fun b j wr => ∃ (m : Nat) (y : Bool), m ≤ ms.length ∧ j = .int .i64 m ∧ b = .bool y ∧ Hid (y = decide ((k : Int) ∈ ms.take m)) ∧ Hid (Below w8.heap.size w8 wr)) (fun _ j _ => ms.length - (intOf j).toNat)
          case atStart => exact ⟨0, false, Nat.zero_le _, rfl, rfl, Lib.hid (by simp), Lib.hid (Below.refl _ _)⟩
          case round =>
            obtain ⟨m, y, hm, rfl, rfl, hy, hB9⟩ := hrel
            have m0 : (0 : Int) ≤ m := by omega
            by_cases hml : m < ms.length
            · have m1 : (m : Int) < ms.length := by omega
              obtain ⟨x, hx⟩ := lt_get hml
              obtain ⟨b2, off2, e2, p2'⟩ := (J5.out.below hB9.out).at_ hx
              subst e2
              have HNX := Lib.hid (find_next ms (k : Int) x m hx)
              rw [← hy.out] at HNX
              clear hx hy
              cases y with
              | true =>
                go_wp2
                go_roundw
                case rel => exact ⟨m + 1, true, by omega, by go_num, rfl, Lib.hid (by rw [← HNX.out]; rfl), hB9⟩
                case measure => simp [intOf]; omega
              | false =>
                go_wp2
                go_roundw
                case rel => exact ⟨m + 1, (x == (k : Int)), by omega, by go_num, rfl, Lib.hid (by rw [← HNX.out]; rfl), hB9⟩
                case measure => simp [intOf]; omega
            · obtain rfl : m = ms.length := by omega
              have hys : y = !s := by rw [hy.out, List.take_length]; exact HMEM.out
              subst hys
              have e3 : ((!s) == s) = false := by cases s <;> rfl
              have HB10 := Lib.hid (below_via HB8.out hB9.out)
              clear hy hB9 HMEM J5
              go_wp2
              go_roundw
              case rel => exact ⟨k + 1, by omega, by go_num, HB10⟩
              case measure => simp [intOf]; omega
        · have k1 : ¬ (k : Int) < G1.length := by omega
          replace HB := Lib.hid (below_via HB.out hB.out)
          clear hB
          by_cases hp : 0 < ms.length
          · obtain rfl : wins = true := by rw [HWN.out]; exact decide_eq_true hp
            have hp1 : (0 : Int) < ms.length := by omega
            go_wp2_with fail
            go_ret
            exact ⟨by simp, HB.out⟩
          · obtain rfl : wins = false := by rw [HWN.out]; exact decide_eq_false hp
            have hp1 : ¬ (0 : Int) < ms.length := by omega
            go_wp2_with fail
            go_ret
            exact ⟨by simp, HB.out⟩

end Go.Proofs.Ytabfdaofikccmaa
