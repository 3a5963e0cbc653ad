/- The walk of laws.FnMinus. -/
import Derived.Test.YtabfdaofikccmaaGreatVfAll
import Derived.Test.YtabfdaofikccmaaGreatVSame
import Derived.Test.YtabfdaofikccmaaGreatSpAll
import Derived.Test.YtabfdaofikccmaaGreatSqAll
import Derived.Test.YtabfdaofikccmaaGreatOrAll
import Derived.Test.YtabfdaofikccmaaGreatGpAll
namespace Go.Proofs.YtabfdaofikccmaaGreat
open Go.RowKit
set_option linter.unusedVariables false
set_option linter.unusedSimpArgs false

set_option maxRecDepth 100000 in
set_option maxHeartbeats 8000000 in
theorem fnMinus_walk (ao : Option Addr) (n c : Nat) (w : World) (hc : CodeIn w (.slice ao n c) n) (hnc : n ≤ c) (hm : c ≤ 9223372036854775807) (hz : ao = none → c = 0) :
    Calls Tryz.prog 3 #[.slice ao n c] w fun e w' => e = .returned (.bool true) ∧ Below w.heap.size w w' := by
  have HC := Lib.hid fun (W : World) (hW : Below w.heap.size w W) => hc.below hW
  have HV := Lib.hid (vBig_calls ao n c w)
  by_cases hbig : 65536 < n
  · rw [decide_eq_true hbig] at HV
    clear hc hm hz hnc
    go_enter Tryz.func3, Tryz.ntmps3
    go_wp2_with fail
    refine HV.out.mono ?_
    rintro e w1 ⟨rfl, rfl⟩
    go_wp2_with fail
    go_ret
    exact ⟨rfl, Below.refl _ _⟩
  rw [decide_eq_false hbig] at HV
  have CF := Lib.hid fun (W : World) (hW : Below w.heap.size w W) => vForm_calls ao n c W (HC.out W hW) (by omega)
  have CT := Lib.hid fun (W : World) (hW : Below w.heap.size w W) => vCutForm_calls ao n c W (HC.out W hW) (by omega) hnc hm hz
  clear hc hm hz hnc hbig HC
  go_enter Tryz.func3, Tryz.ntmps3
  go_wp2_with fail
  refine HV.out.mono ?_
  rintro e w0 ⟨rfl, rfl⟩
  clear HV
  go_wp2_with fail
  refine (CF.out _ (Below.refl _ _)).mono ?_
  rintro e w1 ⟨a1, c1, f1, rfl, hz1, hg1, hl1, hb1⟩
  have HB1 := Lib.hid hb1
  have N1 := Lib.hid hz1
  have G1 := Lib.hid (And.intro hg1 hl1)
  clear hz1 hb1 hg1 hl1 CF
  go_wp2_with fail
  refine (CT.out _ HB1.out).mono ?_
  rintro e w2 ⟨a2, c2, f2, rfl, hz2, hg2, hl2, hb2⟩
  have N1' := Lib.hid (N1.out.below hb2 (Nat.le_refl _))
  have HB2 := Lib.hid (below_viaD HB1.out hb2)
  have N2 := Lib.hid hz2
  have G2 := Lib.hid (And.intro hg2 hl2)
  have s2 := hb2.size
  clear hz2 hb2 hg2 hl2 CT N1 HB1
  go_upto_region 4 with fail
  have z5 : ((w2.alloc (.cells #[.slice a1 f1.length c1] 26)).alloc (.cells #[.slice a2 f2.length c2] 26)).heap.size = w2.heap.size + 2 := by simp
  have b5 : Below w2.heap.size w2 ((w2.alloc (.cells #[.slice a1 f1.length c1] 26)).alloc (.cells #[.slice a2 f2.length c2] 26)) := ((Below.refl _ _).alloc (Nat.le_refl _) _).alloc (by simp) _
  have k1 : ((w2.alloc (.cells #[.slice a1 f1.length c1] 26)).alloc (.cells #[.slice a2 f2.length c2] 26)).cell? ⟨w2.heap.size, 0, none⟩ = some (.slice a1 f1.length c1) := by go_simp
  have k2 : ((w2.alloc (.cells #[.slice a1 f1.length c1] 26)).alloc (.cells #[.slice a2 f2.length c2] 26)).cell? ⟨w2.heap.size + 1, 0, none⟩ = some (.slice a2 f2.length c2) := by go_simp
  have HB5 := Lib.hid (below_viaD HB2.out b5)
  have M1 := Lib.hid (N1'.out.below b5 (by omega))
  have M2 := Lib.hid (N2.out.below b5 (Nat.le_refl _))
  clear N1' N2 HB2 b5
  generalize ((w2.alloc (.cells #[.slice a1 f1.length c1] 26)).alloc (.cells #[.slice a2 f2.length c2] 26)) = w5 at z5 k1 k2 HB5 M1 M2 ⊢
  generalize w2.heap.size = B at z5 k1 k2 M1 M2 s2 ⊢
  have HK := Lib.hid fun (W : World) (hW : Below w5.heap.size w5 W) => And.intro (box_keep k1 hW) (box_keep k2 hW)
  have HM := Lib.hid fun (W : World) (hW : Below w5.heap.size w5 W) => And.intro (M1.out.below hW (by omega)) (M2.out.below hW (by omega))
  obtain ⟨p, hp⟩ : ∃ x, mnV f1 f2 = x := ⟨_, rfl⟩
  obtain ⟨ok, hok⟩ : ∃ x, mnOk f1 f2 = x := ⟨_, rfl⟩
  obtain ⟨yes, hyes⟩ : ∃ x, (!diffF f1 f2 false) = x := ⟨_, rfl⟩
  have HS : Hid (ok = true → goodB p = true ∧ soloF (p.map downN) (p.length - 1) false = !yes) := Lib.hid (fun h => by
    have hs := mn_solo (hok.trans h)
    rw [hp] at hs
    refine ⟨hs.1, ?_⟩
    rw [hs.2 false, ← hyes]
    simp)
  have CI := Lib.hid fun (W : World) (hW : Below w5.heap.size w5 W) => minusI_calls _ _ f1 f2 p ok (Lib.hid hok) (Lib.hid hp) W _ _ _ _ (by have := hW.size; omega) (by have := hW.size; omega) (HM.out W hW).1 (HM.out W hW).2
  have CS := Lib.hid fun (W : World) (hW : Below w5.heap.size w5 W) => minusS_calls _ _ f1 f2 p ok (Lib.hid hok) (Lib.hid hp) W _ _ _ _ (by have := hW.size; omega) (by have := hW.size; omega) (HM.out W hW).1 (HM.out W hW).2
  have CAB := Lib.hid fun (W : World) (hW : Below w5.heap.size w5 W) => atLeastI_calls _ _ f1 f2 yes true (Lib.hid (by rw [G1.out.1, G2.out.1]; rfl)) (Lib.hid (by rw [G1.out.1, G2.out.1, hyes]; simp)) W _ _ _ _ (by have := hW.size; omega) (by have := hW.size; omega) (HM.out W hW).1 (HM.out W hW).2
  have hw5 := HB5.out.size
  clear M1 M2 HM hp hok hyes G1 G2
  go_wp2_with fail
  refine (CI.out _ (Below.refl _ _)).mono ?_
  rintro e w6 ⟨a6, c6, vs6, rfl, ho6, hb6⟩
  have hal6 : Below w6.heap.size w6 (w6.alloc (.cells #[.slice a6 p.length c6] 26)) := (Below.refl _ _).alloc (Nat.le_refl _) _
  have j6 : (w6.alloc (.cells #[.slice a6 p.length c6] 26)).cell? ⟨w6.heap.size, 0, none⟩ = some (.slice a6 p.length c6) := by go_simp
  have z6 : (w6.alloc (.cells #[.slice a6 p.length c6] 26)).heap.size = w6.heap.size + 1 := by simp
  have P6 := Lib.hid (ho6.nodesZ.below hal6 (Nat.le_refl _))
  have HB6 := Lib.hid (hb6.trans (hal6.mono hb6.size))
  clear ho6 hb6 hal6 CI k1 k2
  go_upto_region 5 with fail
  generalize (w6.alloc (.cells #[.slice a6 p.length c6] 26)) = w7 at j6 z6 P6 HB6 ⊢
  generalize w6.heap.size = D6 at j6 z6 P6 ⊢
  obtain ⟨k1, k2⟩ := HK.out _ HB6.out
  go_wp2_with fail
  refine (CS.out _ HB6.out).mono ?_
  rintro e w8 ⟨a8, c8, rfl, ho8, hb8⟩
  have hal8 : Below w8.heap.size w8 (w8.alloc (.cells #[.slice a8 p.length c8] 26)) := (Below.refl _ _).alloc (Nat.le_refl _) _
  have j8 : (w8.alloc (.cells #[.slice a8 p.length c8] 26)).cell? ⟨w8.heap.size, 0, none⟩ = some (.slice a8 p.length c8) := by go_simp
  have z8 : (w8.alloc (.cells #[.slice a8 p.length c8] 26)).heap.size = w8.heap.size + 1 := by simp
  have hb9 : Below w7.heap.size w7 (w8.alloc (.cells #[.slice a8 p.length c8] 26)) := hb8.trans (hal8.mono hb8.size)
  have P8 := Lib.hid (ho8.below hal8 (Nat.le_refl _))
  have P6' := Lib.hid (P6.out.below hb9 (by omega))
  have j6' := box_keep j6 hb9
  have HB8 := Lib.hid (below_viaD HB6.out hb9)
  have s8 := hb8.size
  clear ho8 hb8 hal8 hb9 CS k1 k2 P6 HB6 j6
  go_upto_region 6 with fail
  generalize (w8.alloc (.cells #[.slice a8 p.length c8] 26)) = w9 at j8 j6' z8 P8 P6' HB8 ⊢
  generalize w8.heap.size = D8 at j8 z8 P8 s8 ⊢
  have C := Lib.hid (vSame_same (.slice a6 p.length c6) (.slice a8 p.length c8) p w9 _ _ _ _ (by omega) (by omega) P6'.out P8.out)
  have e1 : (ok != ok) = false := by simp
  clear P8
  go_wp2_with fail
  refine C.out.mono ?_
  rintro e w10 ⟨rfl, hb10⟩
  have P10 := Lib.hid (P6'.out.below hb10 (by omega))
  have j6 := box_keep j6' hb10
  have HB10 := Lib.hid (below_viaD HB8.out hb10)
  have s10 := hb10.size
  clear hb10 C j6' j8 P6' HB8
  cases ok with
  | false =>
    have HBE := Lib.hid (HB5.out.trans (HB10.out.mono hw5))
    clear HB10 HB5 HK CAB HS P10
    go_wp2_with fail
    go_ret
    exact ⟨rfl, HBE.out⟩
  | true =>
    obtain ⟨hgp, hso⟩ := HS.out rfl
    have HGP := Lib.hid hgp
    have HSO := Lib.hid hso
    clear hgp hso HS
    obtain ⟨k1, k2⟩ := HK.out _ HB10.out
    go_wp2_with fail
    refine (CAB.out _ HB10.out).mono ?_
    rintro e w11 ⟨rfl, hb11⟩
    have j6 := box_keep j6 hb11
    have C := Lib.hid (winsMovingI_calls _ p false (!yes) true HGP (Lib.hid (by rw [HGP.out, HSO.out]; simp)) w11 _ _ (by have := hb11.size; omega) (P10.out.below hb11 (by omega)))
    have HB11 := Lib.hid (below_viaD HB10.out hb11)
    clear hb11 CAB k1 k2 P10 HB10 HK
    go_wp2_with fail
    refine C.out.mono ?_
    rintro e w12 ⟨rfl, hb12⟩
    have HBE := Lib.hid (HB5.out.trans ((below_viaD HB11.out hb12).mono hw5))
    have e1 : (yes == !!yes) = true := by simp
    clear hb12 C HB11 HB5
    go_wp2_with fail
    go_ret
    exact ⟨rfl, HBE.out⟩

end Go.Proofs.YtabfdaofikccmaaGreat
