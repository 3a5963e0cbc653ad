/- The walk of laws.FnExactGreatestOf. -/
import Derived.Test.YtiacgcpcgabdoaaGrAll
import Derived.Test.YtiacgcpcgabdoaaFmLaw
import Derived.Test.YtiacgcpcgabdoaaFmToOwn
import Derived.Test.YtiacgcpcgabdoaaFmMarkN
namespace Go.Proofs.Ytiacgcpcgabdoaa
open Go.RowKit
set_option linter.unusedVariables false
set_option linter.unusedSimpArgs false

theorem eqI_own (v v' : Value) (l : List Int) (w : World) (base base' : Nat) (h : OwnI w base v l) (h' : OwnI w base' v' l) :
    Calls Try.prog 26 #[v, v'] w fun e w' => e = .returned (.bool true) ∧ Below w.heap.size w w' :=
  (eqIntS_same v v' l w base w.heap.size base' w.heap.size h.ints h'.ints).mono fun _ _ ⟨he, m, hm⟩ => ⟨he, hm ▸ below_drewN (Below.refl _ _) m⟩

theorem heldI_own (v : Value) (k : Int) (n : Nat) (w : World) (base : Nat) (h : OwnI w base v (nums k n)) (h0 : 0 ≤ k) (h1 : k + (n : Int) ≤ 1000000000) :
    Calls Try.prog 30 #[v, .int .i64 k] w fun e w' => e = .returned (.int .i64 (k + (n : Int))) ∧ w' = w := heldI_calls v k n w base w.heap.size h.ints h0 h1

set_option maxRecDepth 100000 in
set_option maxHeartbeats 8000000 in
theorem fnExactGreatestOf_walk (u0 : Value) (L0 : List (List Nz)) (w : World) (hu0 : CopyFS w u0 L0) :
    Calls Try.prog 6 #[u0] w fun e w' => e = .returned (.bool true) ∧ Below w.heap.size w w' := by
  have HU0 := Lib.hid fun W (hW : Below w.heap.size w W) => hu0.below hW
  obtain ⟨a0, c0, hve0⟩ : ∃ a c, u0 = .slice a L0.length c := by obtain ⟨lo, hi, hh, a, c, e, _⟩ := hu0; exact ⟨a, c, e⟩
  subst hve0
  clear hu0
  obtain ⟨r, hr⟩ : ∃ r, alB 24 L0 = r := ⟨_, rfl⟩
  obtain ⟨g, hg⟩ : ∃ g, grtV L0 = g := ⟨_, rfl⟩
  have hgl : g.length ≤ 1000 := by rw [← hg]; exact grtV_len L0
  have hul : (upL g).length = g.length := by unfold upL; simp
  have HR := Lib.hid (And.intro hg hr)
  clear hg hr
  have q2 : (r != r) = false := by simp
  have HB0 : Hid (Below w.heap.size w w) := Lib.hid (Below.refl _ _)
  have CZ0 := Lib.hid fun W (hW : Below w.heap.size w W) (m : Int) (h0 : 0 ≤ m) (h1 : m ≤ 1048576) => szFormS_copy (.slice a0 L0.length c0) L0 W m h0 h1 (HU0.out W hW)
  go_enter Try.func6, Try.ntmps6
  have CC0 := Lib.hid (CZ0.out _ HB0.out 1048576 (by omega) (by omega))
  have HS0 : Hid (0 ≤ leftOf 1048576 (tzFs L0) → tzFs L0 ≤ 1048576 ∧ leftOf 1048576 (tzFs L0) ≤ 1048576) := Lib.hid (fun h => by have h1 := leftOf_neg 1048576 (tzFs L0) (by omega); have h2 := leftOf_pos 1048576 (tzFs L0) (by omega); omega)
  generalize leftOf 1048576 (tzFs L0) = m0 at CC0 HS0
  go_wp2_with fail
  refine (CC0.out).mono ?_
  rintro e w1 ⟨rfl, hb⟩
  have HB_1 : Hid (Below w.heap.size w w1) := Lib.hid (HB0.out.trans (hb.mono HB0.out.size))
  have hz_1 := hb.size
  clear hb HB0
  by_cases hn0 : m0 < 0
  · go_wp2_with fail
    go_ret
    exact ⟨rfl, HB_1.out⟩
  have hm0 : 0 ≤ m0 := by omega
  have hml0 : m0 ≤ 1048576 := (HS0.out hm0).2
  have HF0 : Hid (tzFs L0 ≤ 1048576) := Lib.hid (HS0.out hm0).1
  have CT0 := Lib.hid fun W (hW : Below w.heap.size w W) => toFormS_copy (.slice a0 L0.length c0) L0 W (HU0.out W hW) HF0.out
  clear HS0 CC0 CZ0
  go_wp2_with fail
  refine (CT0.out w1 HB_1.out).mono ?_
  rintro e w2 ⟨gxm0, psm0, rfl, hxm0, hb⟩
  have Xm0 := Lib.hid hxm0
  clear hxm0
  have HB_2 : Hid (Below w.heap.size w w2) := Lib.hid (HB_1.out.trans (hb.mono HB_1.out.size))
  have hz_2 := hb.size
  clear hb HB_1
  go_wp2_with fail
  refine (GreatestOfM_copy _ L0 r g HR w2 Xm0.out.copyFS).mono ?_
  rintro e w3 ⟨av, cv, rfl, hv, hb⟩
  have V := Lib.hid hv
  have RV : Hid (∀ b, (Value.slice av g.length cv).ownBlock = some b → b < w3.heap.size) := Lib.hid (fun b h => (hv.lt b h).2)
  clear hv
  clear Xm0
  have HB_3 : Hid (Below w.heap.size w w3) := Lib.hid (HB_2.out.trans (hb.mono HB_2.out.size))
  have hz_3 := hb.size
  clear hb HB_2
  go_wp2_with fail
  refine (CT0.out w3 HB_3.out).mono ?_
  rintro e w4 ⟨gxx0, psx0, rfl, hxx0, hb⟩
  have Xx0 := Lib.hid hxx0
  clear hxx0
  have HB_4 : Hid (Below w.heap.size w w4) := Lib.hid (HB_3.out.trans (hb.mono HB_3.out.size))
  have V_4 := Lib.hid (V.out.below hb)
  have hz_4 := hb.size
  clear hb HB_3 V
  have RX0 : Hid (∀ b, BlkFS psx0 b → w3.heap.size ≤ b ∧ b < w4.heap.size) := Lib.hid (fun b hb => Xx0.out.allS (BlkFS.all hb))
  go_wp2_with fail
  refine (GreatestOfI_copy _ L0 r g HR _ Xx0.out.copyFS).mono ?_
  rintro e w5 ⟨ag, cg, rfl, hgo, hb⟩
  have G := Lib.hid hgo
  have RG : Hid (∀ b, (Value.slice ag g.length cg).ownBlock = some b → w4.heap.size ≤ b ∧ b < w5.heap.size) := Lib.hid (fun b h => hgo.lt b h)
  clear hgo
  have HB_5 : Hid (Below w.heap.size w w5) := Lib.hid (HB_4.out.trans (hb.mono HB_4.out.size))
  have V_5 := Lib.hid (V_4.out.below hb)
  have Xx0_5 := Lib.hid (Xx0.out.below hb)
  have hz_5 := hb.size
  clear hb HB_4 V_4 Xx0
  go_wp2_with fail
  refine (eqI_own _ _ (upL g) _ _ _ G.out V_5.out).mono ?_
  rintro e w6 ⟨rfl, hb⟩
  have HB_6 : Hid (Below w.heap.size w w6) := Lib.hid (HB_5.out.trans (hb.mono HB_5.out.size))
  have V_6 := Lib.hid (V_5.out.below hb)
  have Xx0_6 := Lib.hid (Xx0_5.out.below hb)
  have G_6 := Lib.hid (G.out.below hb)
  have hz_6 := hb.size
  clear hb HB_5 V_5 Xx0_5 G
  go_wp2_with fail
  refine (CT0.out w6 HB_6.out).mono ?_
  rintro e w7 ⟨gy0, psy0, rfl, hy0, hb⟩
  have Y0 := Lib.hid hy0
  clear hy0
  have HB_7 : Hid (Below w.heap.size w w7) := Lib.hid (HB_6.out.trans (hb.mono HB_6.out.size))
  have V_7 := Lib.hid (V_6.out.below hb)
  have Xx0_7 := Lib.hid (Xx0_6.out.below hb)
  have G_7 := Lib.hid (G_6.out.below hb)
  have hz_7 := hb.size
  clear hb HB_6 V_6 Xx0_6 G_6
  go_wp2_with fail
  refine (eqFormS_copy _ _ L0 w7 Xx0_7.out.copyFS Y0.out.copyFS).mono ?_
  rintro e w8 ⟨rfl, hb⟩
  clear Y0
  have HB_8 : Hid (Below w.heap.size w w8) := Lib.hid (HB_7.out.trans (hb.mono HB_7.out.size))
  have V_8 := Lib.hid (V_7.out.below hb)
  have Xx0_8 := Lib.hid (Xx0_7.out.below hb)
  have G_8 := Lib.hid (G_7.out.below hb)
  have hz_8 := hb.size
  clear hb HB_7 V_7 Xx0_7 G_7
  have hk0 : (1 : Int) ≤ 1 ∧ 1 ≤ 2000000 := by omega
  have CMK0 := Lib.hid (markFS_calls _ psx0 L0 1 _ _ Xx0_8.out (by omega) (by have h1 := markFS_end L0 1; have h2 := szFS_le L0; have h3 := HF0.out; omega))
  have hmk0 : 1 ≤ (markFS L0 1).2 ∧ (markFS L0 1).2 ≤ 1 + 1048576 := by have h1 := markFS_end L0 1; have h2 := szFS_le L0; have h3 := HF0.out; omega
  generalize (markFS L0 1).2 = km0 at CMK0 hmk0
  go_wp2_with fail
  refine (CMK0.out).mono ?_
  rintro e w9 ⟨rfl, hxm0, ho⟩
  clear hxm0 CMK0
  clear Xx0_8
  have HB_9 : Hid (Below w.heap.size w w9) := Lib.hid (HB_8.out.trans (ho.below HB_8.out.size (fun b h => by have := RX0.out b h; omega)))
  have V_9 := Lib.hid (V_8.out.only ho (fun b hb h => by have := RV.out b hb; have := RX0.out b h; omega))
  have G_9 := Lib.hid (G_8.out.only ho (fun b hb h => by have := RG.out b hb; have := RX0.out b h; omega))
  have hz_9 := ho.size
  clear ho HB_8 V_8 G_8
  go_wp2_with fail
  refine (eqI_own _ _ (upL g) _ _ _ G_9.out V_9.out).mono ?_
  rintro e w10 ⟨rfl, hb⟩
  have HB_10 : Hid (Below w.heap.size w w10) := Lib.hid (HB_9.out.trans (hb.mono HB_9.out.size))
  have V_10 := Lib.hid (V_9.out.below hb)
  have G_10 := Lib.hid (G_9.out.below hb)
  have hz_10 := hb.size
  clear hb HB_9 V_9 G_9
  go_wp2_with fail
  refine (markI_calls _ (upL g) 1 _ _ G_10.out (by omega) (by omega)).mono ?_
  rintro e w11 ⟨rfl, hgm, ho⟩
  have M := Lib.hid hgm
  clear hgm
  clear G_10
  have HB_11 : Hid (Below w.heap.size w w11) := Lib.hid (HB_10.out.trans (ho.below HB_10.out.size (fun b h => by have := RG.out b h; omega)))
  have V_11 := Lib.hid (V_10.out.only ho (fun b hb h => by have := RV.out b hb; have := RG.out b h; omega))
  have hz_11 := ho.size
  clear ho HB_10 V_10
  go_wp2_with fail
  refine (heldI_own _ 1 (upL g).length _ _ M.out (by omega) (by omega)).mono ?_
  rintro e w12 ⟨rfl, rfl⟩
  go_wp2_with fail
  refine (CT0.out w12 HB_11.out).mono ?_
  rintro e w13 ⟨gxh0, psh0, rfl, hxh0, hb⟩
  have Xh0 := Lib.hid hxh0
  clear hxh0
  have HB_12 : Hid (Below w.heap.size w w13) := Lib.hid (HB_11.out.trans (hb.mono HB_11.out.size))
  have V_12 := Lib.hid (V_11.out.below hb)
  have M_12 := Lib.hid (M.out.below hb)
  have hz_12 := hb.size
  clear hb HB_11 V_11 M
  go_wp2_with fail
  refine (GreatestOfI_copy _ L0 r g HR _ Xh0.out.copyFS).mono ?_
  rintro e w14 ⟨ah, ch, rfl, hho, hb⟩
  have H := Lib.hid hho
  clear hho
  clear Xh0
  have HB_13 : Hid (Below w.heap.size w w14) := Lib.hid (HB_12.out.trans (hb.mono HB_12.out.size))
  have V_13 := Lib.hid (V_12.out.below hb)
  have M_13 := Lib.hid (M_12.out.below hb)
  have hz_13 := hb.size
  clear hb HB_12 V_12 M_12
  go_wp2_with fail
  refine (eqI_own _ _ (upL g) _ _ _ H.out V_13.out).mono ?_
  rintro e w15 ⟨rfl, hb⟩
  have HB_14 : Hid (Below w.heap.size w w15) := Lib.hid (HB_13.out.trans (hb.mono HB_13.out.size))
  have V_14 := Lib.hid (V_13.out.below hb)
  have M_14 := Lib.hid (M_13.out.below hb)
  have H_14 := Lib.hid (H.out.below hb)
  have hz_14 := hb.size
  clear hb HB_13 V_13 M_13 H
  go_wp2_with fail
  refine (heldI_own _ 1 (upL g).length _ _ M_14.out (by omega) (by omega)).mono ?_
  rintro e w16 ⟨rfl, rfl⟩
  go_wp2_with fail
  go_ret
  exact ⟨rfl, HB_14.out⟩

end Go.Proofs.Ytiacgcpcgabdoaa
