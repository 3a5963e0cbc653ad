/- The walk of laws.FnOrder. -/
import Derived.Test.YtiacgcpcgabdoaaDrAll
import Derived.Test.YtiacgcpcgabdoaaVfAll
import Derived.Test.YtiacgcpcgabdoaaOrAll
import Derived.Test.YtiacgcpcgabdoaaOsAll
namespace Go.Proofs.Ytiacgcpcgabdoaa
open Go.RowKit
set_option linter.unusedVariables false
set_option linter.unusedSimpArgs false

theorem und_good {f : List Nz} (h : goodB f = true) : Under (f.map downN) := ((goodB_iff f).1 h).2.1.up.2.under

set_option maxRecDepth 100000 in
set_option maxHeartbeats 8000000 in
theorem fnOrder_walk (ao : Option Addr) (n c : Nat) (w : World) (hc : CodeIn w (.slice ao n c) n) (hnc : n ≤ c) (hm : c ≤ 9223372036854775807) (hz : ao = none → c = 0) :
    Calls Try.prog 3 #[.slice ao n c] w fun e w' => e = .returned (.bool true) ∧ Below w.heap.size w w' := by
  have HC := Lib.hid fun (W : World) (hW : Below w.heap.size w W) => hc.below hW
  have HV := Lib.hid (vBig_calls ao n c w)
  by_cases hbig : 65536 < n
  · rw [decide_eq_true hbig] at HV
    clear hc hm hz hnc
    go_enter Try.func3, Try.ntmps3
    go_wp2_with fail
    refine HV.out.mono ?_
    rintro e w1 ⟨rfl, rfl⟩
    go_wp2_with fail
    go_ret
    exact ⟨rfl, Below.refl _ _⟩
  rw [decide_eq_false hbig] at HV
  have CF := Lib.hid fun (W : World) (hW : Below w.heap.size w W) => vForm_calls ao n c W (HC.out W hW) (by omega)
  have CT := Lib.hid fun (W : World) (hW : Below w.heap.size w W) => vCutForm_calls ao n c W (HC.out W hW) (by omega) hnc hm hz
  have CK := Lib.hid fun (W : World) (hW : Below w.heap.size w W) => vCutN_calls ao n c 5 W (HC.out W hW) (by omega) hnc hm hz (by omega) (by omega)
  have CD := Lib.hid fun (W : World) (hW : Below w.heap.size w W) => drawAtLeast_calls ao n c W (HC.out W hW) (by omega)
  clear hc hm hz hnc hbig HC
  go_enter Try.func3, Try.ntmps3
  go_wp2_with fail
  refine HV.out.mono ?_
  rintro e w0 ⟨rfl, rfl⟩
  clear HV
  go_wp2_with fail
  refine (CF.out _ (Below.refl _ _)).mono ?_
  rintro e w1 ⟨a1, c1, f1, rfl, hz1, hg1, hl1, hb1⟩
  have HB1 := Lib.hid hb1
  have N1 := Lib.hid hz1
  have G1 := Lib.hid (And.intro hg1 hl1)
  clear hz1 hb1 hg1 hl1 CF
  go_wp2_with fail
  refine (CT.out _ HB1.out).mono ?_
  rintro e w2 ⟨a2, c2, f2, rfl, hz2, hg2, hl2, hb2⟩
  have N1' := Lib.hid (N1.out.below hb2 (Nat.le_refl _))
  have HB2 := Lib.hid (below_viaD HB1.out hb2)
  have N2 := Lib.hid hz2
  have G2 := Lib.hid (And.intro hg2 hl2)
  have s2 := hb2.size
  clear hz2 hb2 hg2 hl2 CT N1 HB1
  go_wp2_with fail
  refine (CK.out _ HB2.out).mono ?_
  rintro e w3 ⟨g3, n3, c3, rfl, hn3, hc3, hm3, hci3, hb3⟩
  have C := Lib.hid (vForm_calls _ n3 c3 w3 hci3 (by omega))
  have N1'' := Lib.hid (N1'.out.below hb3 (by omega))
  have N2' := Lib.hid (N2.out.below hb3 (by omega))
  have HB3 := Lib.hid (below_viaD HB2.out hb3)
  have s3 := hb3.size
  clear hb3 hci3 CK N1' N2 HB2
  go_wp2_with fail
  refine C.out.mono ?_
  rintro e w4 ⟨a4, c4, f4, rfl, hz4, hg4, hl4, hb4⟩
  have N1 := Lib.hid (N1''.out.below hb4 (by omega))
  have N2 := Lib.hid (N2'.out.below hb4 (by omega))
  have HB4 := Lib.hid (below_viaD HB3.out hb4)
  have N4 := Lib.hid hz4
  have G4 := Lib.hid (And.intro hg4 hl4)
  have s4 := hb4.size
  clear hz4 hb4 hg4 hl4 C N1'' N2' HB3
  go_upto_region 4 with fail
  have z5 : (((w4.alloc (.cells #[.slice a1 f1.length c1] 26)).alloc (.cells #[.slice a2 f2.length c2] 26)).alloc (.cells #[.slice a4 f4.length c4] 26)).heap.size = w4.heap.size + 3 := by simp
  have b5 : Below w4.heap.size w4 (((w4.alloc (.cells #[.slice a1 f1.length c1] 26)).alloc (.cells #[.slice a2 f2.length c2] 26)).alloc (.cells #[.slice a4 f4.length c4] 26)) := (((Below.refl _ _).alloc (Nat.le_refl _) _).alloc (by simp) _).alloc (by simp; omega) _
  have k1 : (((w4.alloc (.cells #[.slice a1 f1.length c1] 26)).alloc (.cells #[.slice a2 f2.length c2] 26)).alloc (.cells #[.slice a4 f4.length c4] 26)).cell? ⟨w4.heap.size, 0, none⟩ = some (.slice a1 f1.length c1) := by go_simp
  have k2 : (((w4.alloc (.cells #[.slice a1 f1.length c1] 26)).alloc (.cells #[.slice a2 f2.length c2] 26)).alloc (.cells #[.slice a4 f4.length c4] 26)).cell? ⟨w4.heap.size + 1, 0, none⟩ = some (.slice a2 f2.length c2) := by go_simp
  have k3 : (((w4.alloc (.cells #[.slice a1 f1.length c1] 26)).alloc (.cells #[.slice a2 f2.length c2] 26)).alloc (.cells #[.slice a4 f4.length c4] 26)).cell? ⟨w4.heap.size + 1 + 1, 0, none⟩ = some (.slice a4 f4.length c4) := by go_simp
  have HB5 := Lib.hid (below_viaD HB4.out b5)
  have M1 := Lib.hid (N1.out.below b5 (by omega))
  have M2 := Lib.hid (N2.out.below b5 (by omega))
  have M4 := Lib.hid (N4.out.below b5 (Nat.le_refl _))
  clear N1 N2 N4 HB4 b5
  generalize (((w4.alloc (.cells #[.slice a1 f1.length c1] 26)).alloc (.cells #[.slice a2 f2.length c2] 26)).alloc (.cells #[.slice a4 f4.length c4] 26)) = w5 at z5 k1 k2 k3 HB5 M1 M2 M4 ⊢
  generalize w4.heap.size = B at z5 k1 k2 k3 M1 M2 M4 s4 ⊢
  have HK := Lib.hid fun (W : World) (hW : Below w5.heap.size w5 W) => And.intro (box_keep k1 hW) (And.intro (box_keep k2 hW) (box_keep k3 hW))
  have HM := Lib.hid fun (W : World) (hW : Below w5.heap.size w5 W) => And.intro (M1.out.below hW (by omega)) (And.intro (M2.out.below hW (by omega)) (M4.out.below hW (by omega)))
  have HU1 := und_good G1.out.1
  have HU2 := und_good G2.out.1
  have HU4 := und_good G4.out.1
  obtain ⟨ab, hab⟩ : ∃ x, (!diffF f1 f2 false) = x := ⟨_, rfl⟩
  obtain ⟨bc, hbc⟩ : ∃ x, (!diffF f2 f4 false) = x := ⟨_, rfl⟩
  obtain ⟨ac, hac⟩ : ∃ x, (!diffF f1 f4 false) = x := ⟨_, rfl⟩
  have haa : (!diffF f1 f1 false) = true := ge_refl HU1 _
  have HT : Hid (ab = true → bc = true → ac = true) := Lib.hid (fun h1 h2 => by
    subst h1 h2
    rw [← hac]
    exact ge_trans HU1 HU2 HU4 hab hbc)
  have CAA := Lib.hid fun (W : World) (hW : Below w5.heap.size w5 W) => atLeastI_calls _ _ f1 f1 true true (Lib.hid (by rw [G1.out.1]; rfl)) (Lib.hid (by rw [G1.out.1, haa]; rfl)) W _ _ _ _ (by have := hW.size; omega) (by have := hW.size; omega) (HM.out W hW).1 (HM.out W hW).1
  have CAB := Lib.hid fun (W : World) (hW : Below w5.heap.size w5 W) => atLeastI_calls _ _ f1 f2 ab true (Lib.hid (by rw [G1.out.1, G2.out.1]; rfl)) (Lib.hid (by rw [G1.out.1, G2.out.1, hab]; simp)) W _ _ _ _ (by have := hW.size; omega) (by have := hW.size; omega) (HM.out W hW).1 (HM.out W hW).2.1
  have CBC := Lib.hid fun (W : World) (hW : Below w5.heap.size w5 W) => atLeastI_calls _ _ f2 f4 bc true (Lib.hid (by rw [G2.out.1, G4.out.1]; rfl)) (Lib.hid (by rw [G2.out.1, G4.out.1, hbc]; simp)) W _ _ _ _ (by have := hW.size; omega) (by have := hW.size; omega) (HM.out W hW).2.1 (HM.out W hW).2.2
  have CAC := Lib.hid fun (W : World) (hW : Below w5.heap.size w5 W) => atLeastI_calls _ _ f1 f4 ac true (Lib.hid (by rw [G1.out.1, G4.out.1]; rfl)) (Lib.hid (by rw [G1.out.1, G4.out.1, hac]; simp)) W _ _ _ _ (by have := hW.size; omega) (by have := hW.size; omega) (HM.out W hW).1 (HM.out W hW).2.2
  have CSP := Lib.hid fun (W : World) (hW : Below w5.heap.size w5 W) => atLeastS_calls _ _ f1 f2 ab true (Lib.hid (by rw [G1.out.1, G2.out.1]; rfl)) (Lib.hid (by rw [G1.out.1, G2.out.1, hab]; simp)) W _ _ _ _ (by have := hW.size; omega) (by have := hW.size; omega) (HM.out W hW).1 (HM.out W hW).2.1
  have hw5 := HB5.out.size
  clear M1 M2 M4 HM HU1 HU2 HU4 hab hbc hac haa G1 G2 G4 k2 k3
  go_wp2_with fail
  refine (CAA.out _ (Below.refl _ _)).mono ?_
  rintro e w6 ⟨rfl, hb6⟩
  obtain ⟨k1, k2, k3⟩ := HK.out _ hb6
  have HB6 := Lib.hid hb6
  clear hb6 CAA
  go_wp2_with fail
  refine (CAB.out _ HB6.out).mono ?_
  rintro e w7 ⟨rfl, hb7⟩
  have HB7 := Lib.hid (below_viaD HB6.out hb7)
  obtain ⟨k1, k2, k3⟩ := HK.out _ HB7.out
  clear hb7 CAB HB6
  go_wp2_with fail
  refine (CBC.out _ HB7.out).mono ?_
  rintro e w8 ⟨rfl, hb8⟩
  have HB8 := Lib.hid (below_viaD HB7.out hb8)
  obtain ⟨k1, k2, k3⟩ := HK.out _ HB8.out
  clear hb8 CBC HB7
  go_wp2_with fail
  refine (CAC.out _ HB8.out).mono ?_
  rintro e w9 ⟨rfl, hb9⟩
  have HB9 := Lib.hid (below_viaD HB8.out hb9)
  obtain ⟨k1, k2, k3⟩ := HK.out _ HB9.out
  clear hb9 CAC HB8
  go_wp2_with fail
  refine (CSP.out _ HB9.out).mono ?_
  rintro e w10 ⟨rfl, hb10⟩
  have HB10 := Lib.hid (HB5.out.trans ((below_viaD HB9.out hb10).mono hw5))
  clear hb10 CSP HB9 HK k1 k2 k3 HB5
  have q1 : (ab != ab) = false := by simp
  go_wp2_with fail
  refine (CD.out _ HB10.out).mono ?_
  rintro e w11 ⟨a6, c6, f6, a7, c7, f7, rfl, hz6, hz7, hb11⟩
  have HB11 := Lib.hid (below_viaD HB10.out hb11)
  have M6 := Lib.hid hz6
  have M7 := Lib.hid hz7
  clear hz6 hz7 hb11 CD HB10
  go_upto_region 12 with fail
  have z12 : ((w11.alloc (.cells #[.slice a6 f6.length c6] 26)).alloc (.cells #[.slice a7 f7.length c7] 26)).heap.size = w11.heap.size + 2 := by simp
  have b12 : Below w11.heap.size w11 ((w11.alloc (.cells #[.slice a6 f6.length c6] 26)).alloc (.cells #[.slice a7 f7.length c7] 26)) := ((Below.refl _ _).alloc (Nat.le_refl _) _).alloc (by simp) _
  have k6 : ((w11.alloc (.cells #[.slice a6 f6.length c6] 26)).alloc (.cells #[.slice a7 f7.length c7] 26)).cell? ⟨w11.heap.size, 0, none⟩ = some (.slice a6 f6.length c6) := by go_simp
  have k7 : ((w11.alloc (.cells #[.slice a6 f6.length c6] 26)).alloc (.cells #[.slice a7 f7.length c7] 26)).cell? ⟨w11.heap.size + 1, 0, none⟩ = some (.slice a7 f7.length c7) := by go_simp
  have HB12 := Lib.hid (below_viaD HB11.out b12)
  have hw12 := HB12.out.size
  have P6 := Lib.hid (M6.out.below b12 (Nat.le_refl _))
  have P7 := Lib.hid (M7.out.below b12 (Nat.le_refl _))
  clear M6 M7 b12 HB11
  generalize ((w11.alloc (.cells #[.slice a6 f6.length c6] 26)).alloc (.cells #[.slice a7 f7.length c7] 26)) = w12 at z12 k6 k7 HB12 P6 P7 hw12 ⊢
  generalize w11.heap.size = D at z12 k6 k7 P6 P7 ⊢
  obtain ⟨ok, hok⟩ : ∃ x, (goodB f6 && goodB f7) = x := ⟨_, rfl⟩
  obtain ⟨de, hde⟩ : ∃ x, (goodB f6 && goodB f7 && !diffF f6 f7 false) = x := ⟨_, rfl⟩
  have C1 := Lib.hid (atLeastI_calls _ _ f6 f7 de ok (Lib.hid hok) (Lib.hid hde) w12 _ _ _ _ (by omega) (by omega) P6.out P7.out)
  have C2 := Lib.hid fun (W : World) (hW : Below w12.heap.size w12 W) => atLeastS_calls _ _ f6 f7 de ok (Lib.hid hok) (Lib.hid hde) W _ _ _ _ (by have := hW.size; omega) (by have := hW.size; omega) (P6.out.below hW (by omega)) (P7.out.below hW (by omega))
  have e1 : (de == de) = true := by simp
  have e2 : (ok == ok) = true := by simp
  clear hok hde P6 P7
  go_wp2_with fail
  refine C1.out.mono ?_
  rintro e w13 ⟨rfl, hb13⟩
  have k6 := box_keep k6 hb13
  have k7 := box_keep k7 hb13
  have HB13 := Lib.hid hb13
  clear hb13 C1
  go_wp2_with fail
  refine (C2.out _ HB13.out).mono ?_
  rintro e w14 ⟨rfl, hb14⟩
  have HB14 := Lib.hid (HB12.out.trans ((below_viaD HB13.out hb14).mono hw12))
  clear hb14 C2 HB13 HB12 k6 k7
  have T := HT.out
  clear HT
  cases ab <;> cases bc <;> cases ac <;>
  first
  | (have hT := T rfl rfl; cases hT; done)
  | (go_wp2_with fail
     go_ret
     exact ⟨rfl, HB14.out⟩)

end Go.Proofs.Ytiacgcpcgabdoaa
