/- The walk of laws.FnNegOrder. -/
import Derived.Test.YtiacgcpcgabdoaaGreatVfAll
import Derived.Test.YtiacgcpcgabdoaaGreatSim
import Derived.Test.YtiacgcpcgabdoaaGreatInAll
import Derived.Test.YtiacgcpcgabdoaaGreatOrAll
import Derived.Test.YtiacgcpcgabdoaaGreatOsAll
namespace Go.Proofs.YtiacgcpcgabdoaaGreat
open Go.RowKit
set_option linter.unusedVariables false
set_option linter.unusedSimpArgs false

set_option maxRecDepth 100000 in
set_option maxHeartbeats 8000000 in
theorem fnNegOrder_walk (ao : Option Addr) (n c : Nat) (w : World) (hc : CodeIn w (.slice ao n c) n) (hnc : n ≤ c) (hm : c ≤ 9223372036854775807) (hz : ao = none → c = 0) :
    Calls Tryz.prog 3 #[.slice ao n c] w fun e w' => e = .returned (.bool true) ∧ Below w.heap.size w w' := by
  have HC := Lib.hid fun (W : World) (hW : Below w.heap.size w W) => hc.below hW
  have HV := Lib.hid (vBig_calls ao n c w)
  by_cases hbig : 65536 < n
  · rw [decide_eq_true hbig] at HV
    clear hc hm hz hnc
    go_enter Tryz.func3, Tryz.ntmps3
    go_wp2_with fail
    refine HV.out.mono ?_
    rintro e w1 ⟨rfl, rfl⟩
    go_wp2_with fail
    go_ret
    exact ⟨rfl, Below.refl _ _⟩
  rw [decide_eq_false hbig] at HV
  have CF := Lib.hid fun (W : World) (hW : Below w.heap.size w W) => vForm_calls ao n c W (HC.out W hW) (by omega)
  have CT := Lib.hid fun (W : World) (hW : Below w.heap.size w W) => vCutForm_calls ao n c W (HC.out W hW) (by omega) hnc hm hz
  clear hc hm hz hnc hbig HC
  go_enter Tryz.func3, Tryz.ntmps3
  go_wp2_with fail
  refine HV.out.mono ?_
  rintro e w0 ⟨rfl, rfl⟩
  clear HV
  go_wp2_with fail
  refine (CF.out _ (Below.refl _ _)).mono ?_
  rintro e w1 ⟨a1, c1, f1, rfl, hz1, hg1, hl1, hb1⟩
  have HB1 := Lib.hid hb1
  have N1 := Lib.hid hz1
  have G1 := Lib.hid (And.intro hg1 hl1)
  clear hz1 hb1 hg1 hl1 CF
  go_wp2_with fail
  refine (CT.out _ HB1.out).mono ?_
  rintro e w2 ⟨a2, c2, f2, rfl, hz2, hg2, hl2, hb2⟩
  have N1' := Lib.hid (N1.out.below hb2 (Nat.le_refl _))
  have HB2 := Lib.hid (below_viaD HB1.out hb2)
  have N2 := Lib.hid hz2
  have G2 := Lib.hid (And.intro hg2 hl2)
  have s2 := hb2.size
  clear hz2 hb2 hg2 hl2 CT N1 HB1
  go_upto_region 4 with fail
  have z5 : ((w2.alloc (.cells #[.slice a1 f1.length c1] 26)).alloc (.cells #[.slice a2 f2.length c2] 26)).heap.size = w2.heap.size + 2 := by simp
  have b5 : Below w2.heap.size w2 ((w2.alloc (.cells #[.slice a1 f1.length c1] 26)).alloc (.cells #[.slice a2 f2.length c2] 26)) := ((Below.refl _ _).alloc (Nat.le_refl _) _).alloc (by simp) _
  have k1 : ((w2.alloc (.cells #[.slice a1 f1.length c1] 26)).alloc (.cells #[.slice a2 f2.length c2] 26)).cell? ⟨w2.heap.size, 0, none⟩ = some (.slice a1 f1.length c1) := by go_simp
  have k2 : ((w2.alloc (.cells #[.slice a1 f1.length c1] 26)).alloc (.cells #[.slice a2 f2.length c2] 26)).cell? ⟨w2.heap.size + 1, 0, none⟩ = some (.slice a2 f2.length c2) := by go_simp
  have HB5 := Lib.hid (below_viaD HB2.out b5)
  have M1 := Lib.hid (N1'.out.below b5 (by omega))
  have M2 := Lib.hid (N2.out.below b5 (Nat.le_refl _))
  clear N1' N2 HB2 b5
  generalize ((w2.alloc (.cells #[.slice a1 f1.length c1] 26)).alloc (.cells #[.slice a2 f2.length c2] 26)) = w5 at z5 k1 k2 HB5 M1 M2 ⊢
  generalize w2.heap.size = B at z5 k1 k2 M1 M2 s2 ⊢
  have HK := Lib.hid fun (W : World) (hW : Below w5.heap.size w5 W) => And.intro (box_keep k1 hW) (box_keep k2 hW)
  have HM := Lib.hid fun (W : World) (hW : Below w5.heap.size w5 W) => And.intro (M1.out.below hW (by omega)) (M2.out.below hW (by omega))
  obtain ⟨p1, hp1⟩ : ∃ x, negV f1 = x := ⟨_, rfl⟩
  obtain ⟨p2, hp2⟩ : ∃ x, negV f2 = x := ⟨_, rfl⟩
  obtain ⟨ab, hab⟩ : ∃ x, (!diffF f1 f2 false) = x := ⟨_, rfl⟩
  have hnn : (!diffF p2 p1 false) = ab := by rw [← hp1, ← hp2, neg_ge G1.out.1 G2.out.1]; exact hab
  have hgp1 : goodB p1 = true := by rw [← hp1]; exact neg_good G1.out.1
  have hgp2 : goodB p2 = true := by rw [← hp2]; exact neg_good G2.out.1
  have CN1 := Lib.hid fun (W : World) (hW : Below w5.heap.size w5 W) => negI_calls _ f1 p1 true (Lib.hid G1.out.1) (Lib.hid hp1) W _ _ (by have := hW.size; omega) (HM.out W hW).1
  have CN2 := Lib.hid fun (W : World) (hW : Below w5.heap.size w5 W) => negI_calls _ f2 p2 true (Lib.hid G2.out.1) (Lib.hid hp2) W _ _ (by have := hW.size; omega) (HM.out W hW).2
  have CAB := Lib.hid fun (W : World) (hW : Below w5.heap.size w5 W) => atLeastI_calls _ _ f1 f2 ab true (Lib.hid (by rw [G1.out.1, G2.out.1]; rfl)) (Lib.hid (by rw [G1.out.1, G2.out.1, hab]; simp)) W _ _ _ _ (by have := hW.size; omega) (by have := hW.size; omega) (HM.out W hW).1 (HM.out W hW).2
  have CSP := Lib.hid fun (W : World) (hW : Below w5.heap.size w5 W) => atLeastS_calls _ _ f1 f2 ab true (Lib.hid (by rw [G1.out.1, G2.out.1]; rfl)) (Lib.hid (by rw [G1.out.1, G2.out.1, hab]; simp)) W _ _ _ _ (by have := hW.size; omega) (by have := hW.size; omega) (HM.out W hW).1 (HM.out W hW).2
  have CNN := Lib.hid fun (W : World) (va vb : Value) (lo hi lo' hi' : Nat) (hh : hi ≤ W.heap.size) (hh' : hi' ≤ W.heap.size) (hva : NodesZ W lo hi va p2) (hvb : NodesZ W lo' hi' vb p1) => atLeastI_calls va vb p2 p1 ab true (Lib.hid (by rw [hgp1, hgp2]; rfl)) (Lib.hid (by rw [hgp1, hgp2, hnn]; simp)) W lo hi lo' hi' hh hh' hva hvb
  have hw5 := HB5.out.size
  clear M1 M2 HM hab hnn hgp1 hgp2 hp1 hp2 G1 G2
  go_wp2_with fail
  refine (CN1.out _ (Below.refl _ _)).mono ?_
  rintro e w6 ⟨a6, c6, vs6, rfl, ho6, hb6⟩
  have hal6 : Below w6.heap.size w6 (w6.alloc (.cells #[.slice a6 p1.length c6] 26)) := (Below.refl _ _).alloc (Nat.le_refl _) _
  have j6 : (w6.alloc (.cells #[.slice a6 p1.length c6] 26)).cell? ⟨w6.heap.size, 0, none⟩ = some (.slice a6 p1.length c6) := by go_simp
  have z6 : (w6.alloc (.cells #[.slice a6 p1.length c6] 26)).heap.size = w6.heap.size + 1 := by simp
  have P6 := Lib.hid (ho6.nodesZ.below hal6 (Nat.le_refl _))
  have HB6 := Lib.hid (hb6.trans (hal6.mono hb6.size))
  clear ho6 hb6 hal6 CN1 k1 k2
  go_upto_region 5 with fail
  generalize (w6.alloc (.cells #[.slice a6 p1.length c6] 26)) = w7 at j6 z6 P6 HB6 ⊢
  generalize w6.heap.size = D6 at j6 z6 P6 ⊢
  obtain ⟨k1, k2⟩ := HK.out _ HB6.out
  go_wp2_with fail
  refine (CN2.out _ HB6.out).mono ?_
  rintro e w8 ⟨a8, c8, vs8, rfl, ho8, hb8⟩
  have hal8 : Below w8.heap.size w8 (w8.alloc (.cells #[.slice a8 p2.length c8] 26)) := (Below.refl _ _).alloc (Nat.le_refl _) _
  have j8 : (w8.alloc (.cells #[.slice a8 p2.length c8] 26)).cell? ⟨w8.heap.size, 0, none⟩ = some (.slice a8 p2.length c8) := by go_simp
  have z8 : (w8.alloc (.cells #[.slice a8 p2.length c8] 26)).heap.size = w8.heap.size + 1 := by simp
  have hb9 : Below w7.heap.size w7 (w8.alloc (.cells #[.slice a8 p2.length c8] 26)) := hb8.trans (hal8.mono hb8.size)
  have P8 := Lib.hid (ho8.nodesZ.below hal8 (Nat.le_refl _))
  have P6' := Lib.hid (P6.out.below hb9 (by omega))
  have j6' := box_keep j6 hb9
  have HB8 := Lib.hid (below_viaD HB6.out hb9)
  have s8 := hb8.size
  clear ho8 hb8 hal8 hb9 CN2 k1 k2 P6 HB6 j6
  go_upto_region 6 with fail
  generalize (w8.alloc (.cells #[.slice a8 p2.length c8] 26)) = w9 at j8 j6' z8 P8 P6' HB8 ⊢
  generalize w8.heap.size = D8 at j8 z8 P8 s8 ⊢
  obtain ⟨k1, k2⟩ := HK.out _ HB8.out
  go_wp2_with fail
  refine (CAB.out _ HB8.out).mono ?_
  rintro e w10 ⟨rfl, hb10⟩
  have C := Lib.hid (CNN.out w10 _ _ _ _ _ _ (by have := hb10.size; omega) (by have := hb10.size; omega) (P8.out.below hb10 (by omega)) (P6'.out.below hb10 (by omega)))
  have j8 := box_keep j8 hb10
  have j6' := box_keep j6' hb10
  have HB10 := Lib.hid (below_viaD HB8.out hb10)
  clear hb10 CAB k1 k2 P8 P6' HB8 CNN
  go_wp2_with fail
  refine C.out.mono ?_
  rintro e w11 ⟨rfl, hb11⟩
  have HB11 := Lib.hid (below_viaD HB10.out hb11)
  obtain ⟨k1, k2⟩ := HK.out _ HB11.out
  clear hb11 C HB10 j8 j6'
  go_wp2_with fail
  refine (CSP.out _ HB11.out).mono ?_
  rintro e w12 ⟨rfl, hb12⟩
  have HB12 := Lib.hid (HB5.out.trans ((below_viaD HB11.out hb12).mono hw5))
  have e1 : (ab == ab) = true := by simp
  clear hb12 CSP HB11 HK k1 k2 HB5
  go_wp2_with fail
  go_ret
  exact ⟨rfl, HB12.out⟩

end Go.Proofs.YtiacgcpcgabdoaaGreat
