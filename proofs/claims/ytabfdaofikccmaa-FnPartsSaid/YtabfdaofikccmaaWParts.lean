/- The walk of laws.FnParts. -/
import Derived.Test.YtabfdaofikccmaaVBig
import Derived.Test.YtabfdaofikccmaaVfAll
import Derived.Test.YtabfdaofikccmaaPyAll
import Derived.Test.YtabfdaofikccmaaOpAll
import Derived.Test.YtabfdaofikccmaaLsBll
import Derived.Test.YtabfdaofikccmaaFmBornF
namespace Go.Proofs.Ytabfdaofikccmaa
open Go.RowKit
set_option linter.unusedVariables false
set_option linter.unusedSimpArgs false

set_option maxRecDepth 100000 in
set_option maxHeartbeats 8000000 in
theorem fnParts_walk (ao : Option Addr) (n c : Nat) (w : World) (hc : CodeIn w (.slice ao n c) n) (hnc : n ≤ c) (hm : c ≤ 9223372036854775807) (hz : ao = none → c = 0) :
    Calls Try.prog 5 #[.slice ao n c] w fun e w' => e = .returned (.bool true) ∧ Below w.heap.size w w' := by
  have HC := Lib.hid fun (W : World) (hW : Below w.heap.size w W) => hc.below hW
  have HV := Lib.hid (vBig_calls ao n c w)
  by_cases hbig : 65536 < n
  · rw [decide_eq_true hbig] at HV
    clear hc hm hz hnc
    go_enter Try.func5, Try.ntmps5
    go_wp2_with fail
    refine HV.out.mono ?_
    rintro e w1 ⟨rfl, rfl⟩
    go_wp2_with fail
    go_ret
    exact ⟨rfl, Below.refl _ _⟩
  rw [decide_eq_false hbig] at HV
  have HN := Lib.hid (show n ≤ 65536 by omega)
  have HCC := Lib.hid (And.intro hnc (And.intro hm hz))
  clear hc hm hz hnc hbig
  go_enter Try.func5, Try.ntmps5
  go_wp2_with fail
  refine HV.out.mono ?_
  rintro e w0 ⟨rfl, rfl⟩
  clear HV
  have HB := Lib.hid (Below.refl w0.heap.size w0)
  have C := Lib.hid (vForm_calls ao n c w0 (HC.out _ HB.out) (by have := HN.out; omega))
  go_wp2_with fail
  refine C.out.mono ?_
  rintro e wd1 ⟨a1, c1, f1, rfl, hz, hg, hl, hb⟩
  have Q1 := Lib.hid (copyOf_nodes hz)
  replace HB := Lib.hid (below_via HB.out hb)
  have HG1 := Lib.hid hg
  clear hg hl
  clear hb C hz
  obtain ⟨hx1, hst⟩ := one_box Q1.out 28
  have X1 := Lib.hid hx1
  replace HB := Lib.hid (below_via HB.out hst)
  clear hst hx1 Q1
  go_upto_region 4 with fail
  generalize (wd1.alloc (.cells #[.slice a1 f1.length c1] 28)) = wm2 at HB X1 ⊢
  generalize wd1.heap.size = DB at X1 ⊢
  clear HC HN HCC
  obtain ⟨i0, hi0, hz0, hz1, hz2⟩ := info_parts infoFormA
  have hpos : 0 < f1.length := ((goodB_iff f1).1 HG1.out).1.1
  have hmax : f1.length ≤ 120 := ((goodB_iff f1).1 HG1.out).1.2.1
  have HG := HB
  clear HB
  go_wp2
  go_loopw [5] (fun i wr => ∃ k : Nat, k + 1 ≤ f1.length ∧ i = .int .i64 k ∧ Hid (Below wm2.heap.size wm2 wr)) (fun i _ => f1.length - (intOf i).toNat)
  case atStart => exact ⟨0, hpos, rfl, Lib.hid (Below.refl _ _)⟩
  case round =>
    obtain ⟨k, hk, rfl, HB⟩ := hrel
    have i1 : IntKind.i64.wrap ((k : Int) + 1) = ((k + 1 : Nat) : Int) := by rw [IntWalk.i64_in _ (by omega)]; omega
    have Y1 := Lib.hid (X1.out.step HB.out)
    clear X1
    by_cases hlt : k + 1 < f1.length
    · have l1 : ((k + 1 : Nat) : Int) < f1.length := by omega
      obtain ⟨A, hA⟩ : ∃ A, (partI (f1.map downN) k).map upN = A := ⟨_, rfl⟩
      obtain ⟨B, hB⟩ : ∃ B, (partI (f1.map downN) (k + 1)).map upN = B := ⟨_, rfl⟩
      have HPA : Hid (partB f1 (k : Int) = true) := Lib.hid (by unfold partB; rw [HG1.out, Bool.true_and, Bool.and_eq_true]; exact ⟨decide_eq_true (by omega), decide_eq_true (by omega)⟩)
      have HPB : Hid (partB f1 ((k + 1 : Nat) : Int) = true) := Lib.hid (by unfold partB; rw [HG1.out, Bool.true_and, Bool.and_eq_true]; exact ⟨decide_eq_true (by omega), decide_eq_true (by omega)⟩)
      have HA : Hid (partV f1 (k : Int) = A) := Lib.hid (by unfold partV; rw [if_pos HPA.out, ← hA, Int.toNat_natCast])
      have HBV : Hid (partV f1 ((k + 1 : Nat) : Int) = B) := Lib.hid (by unfold partV; rw [if_pos HPB.out, ← hB, Int.toNat_natCast])
      have HGG : Hid ((goodB A && goodB B) = true) := Lib.hid (by rw [← hA, ← hB, (good_part HG1.out (show k < f1.length by omega)).1, (good_part HG1.out hlt).1]; rfl)
      have HLS : Hid (lessV A B = true) := Lib.hid (by rw [← hA, ← hB]; exact parts_ahead HG1.out (Nat.lt_succ_self k) hlt)
      clear hA hB
      obtain ⟨kY1, loY1, hiY1, hhY1, nY1⟩ := Y1.out
      have C := Lib.hid (partAtI_calls _ f1 A (k : Int) true HPA HA wr loY1 hiY1 hhY1 nY1)
      clear hhY1 nY1
      go_wp2_with fail
      refine C.out.mono ?_
      rintro e wa3 ⟨a2, c2, vs2, rfl, ho, hb⟩
      have hst := below_via hb (below_new wa3 (.cells #[.slice a2 A.length c2] 28))
      replace HB := Lib.hid (below_via HB.out hst)
      replace Y1 := Lib.hid (Y1.out.step hst)
      have Y2 := Lib.hid (BoxF.new (copyOf_nodes ho.nodesZ) 28)
      clear ho hb hst C 
      clear kY1
      go_upto_region 9 with fail
      generalize (wa3.alloc (.cells #[.slice a2 A.length c2] 28)) = wm3 at HB Y1 Y2 ⊢
      generalize wa3.heap.size = DY2 at Y2 ⊢
      obtain ⟨kY1, loY1, hiY1, hhY1, nY1⟩ := Y1.out
      have C := Lib.hid (partAtI_calls _ f1 B ((k + 1 : Nat) : Int) true HPB HBV wm3 loY1 hiY1 hhY1 nY1)
      clear hhY1 nY1
      go_wp2_with fail
      refine C.out.mono ?_
      rintro e wa4 ⟨a3, c3, vs3, rfl, ho, hb⟩
      have hst := below_via hb (below_new wa4 (.cells #[.slice a3 B.length c3] 28))
      replace HB := Lib.hid (below_via HB.out hst)
      replace Y1 := Lib.hid (Y1.out.step hst)
      replace Y2 := Lib.hid (Y2.out.step hst)
      have Y3 := Lib.hid (BoxF.new (copyOf_nodes ho.nodesZ) 28)
      clear ho hb hst C 
      clear kY1
      go_upto_region 10 with fail
      generalize (wa4.alloc (.cells #[.slice a3 B.length c3] 28)) = wm4 at HB Y1 Y2 Y3 ⊢
      generalize wa4.heap.size = DY3 at Y3 ⊢
      obtain ⟨kY2, loY2, hiY2, hhY2, nY2⟩ := Y2.out
      obtain ⟨kY3, loY3, hiY3, hhY3, nY3⟩ := Y3.out
      have C := Lib.hid (lessI_calls _ _ A B true true HGG HLS wm4 loY2 hiY2 loY3 hiY3 hhY2 hhY3 nY2 nY3)
      clear hhY2 nY2 hhY3 nY3
      go_wp2_with fail
      refine C.out.mono ?_
      rintro e wa5 ⟨rfl, hb⟩
      replace HB := Lib.hid (below_via HB.out hb)
      replace Y1 := Lib.hid (Y1.out.step hb)
      replace Y2 := Lib.hid (Y2.out.step hb)
      replace Y3 := Lib.hid (Y3.out.step hb)
      clear hb C 
      clear kY2
      clear kY3
      go_wp2
      go_roundw
      case rel => exact ⟨k + 1, by omega, by go_num, HB⟩
      case measure => simp [intOf]; omega
    · have l1 : ¬ ((k + 1 : Nat) : Int) < f1.length := by omega
      replace HB := Lib.hid (below_via HG.out HB.out)
      clear HG hk
      obtain ⟨G1, h1⟩ : ∃ x, optV f1 true = x := ⟨_, rfl⟩
      obtain ⟨G2, h2⟩ : ∃ x, optV f1 false = x := ⟨_, rfl⟩
      have HAT : Hid (∀ (j : Nat) (q : List Nz), (G1 ++ G2)[j]? = some q → ∃ x, ((lastN f1).1 ++ (lastN f1).2)[j]? = some x ∧ goodB q = true ∧ bornV q = bOf (f1.map downN) x) := Lib.hid (fun j q hq => opts_at HG1.out (by rw [h1, h2]; exact hq))
      have hlen : (G1 ++ G2).length = ((lastN f1).1 ++ (lastN f1).2).length := by rw [← h1, ← h2, opts_all HG1.out, List.length_map]
      have hl1 : G1.length ≤ 24 := by rw [← h1]; unfold optV partsF; rw [HG1.out]; simpa using (lastN_small HG1.out).1
      have hl2 : G2.length ≤ 24 := by rw [← h2]; unfold optV partsF; rw [HG1.out]; simpa using (lastN_small HG1.out).2
      have H1 := Lib.hid h1
      have H2 := Lib.hid h2
      clear h1 h2
      obtain ⟨kY1, loY1, hiY1, hhY1, nY1⟩ := Y1.out
      have C := Lib.hid (optionsI_calls _ f1 G1 G2 true HG1 H1 H2 wr loY1 hiY1 hhY1 nY1)
      clear hhY1 nY1
      go_wp2_with fail
      refine C.out.mono ?_
      rintro e w7 ⟨g1, g2, N, p1, p2, rfl, ho1, ho2, _, _, hb⟩
      replace HB := Lib.hid (below_via HB.out hb)
      replace Y1 := Lib.hid (Y1.out.step hb)
      have HO1 := Lib.hid ho1
      have HO2 := Lib.hid ho2
      clear hb C kY1 ho1 ho2 H1 H2
      have hbn := below_new w7 (.cells #[] 28)
      have hzn : (w7.alloc (.cells #[] 28)).heap.size = w7.heap.size + 1 := by simp
      have HR := Lib.hid (World.ownsRow_lit (base := w7.heap.size) (e := 28) (size := 1) w7 #[] 0 (Nat.le_refl _) (by unfold maxLen; omega) rfl)
      have HC1 := Lib.hid (ownFS_src HO1.out (w' := w7.alloc (.cells #[] 28)) (fun b hb o => bcell hbn b o hb))
      have HC2 := Lib.hid fun (W : World) (hW : Only (w7.alloc (.cells #[] 28)) W (fun b => b = w7.heap.size)) => ownFS_src HO2.out (w' := W) (fun b hb o => (hW.cell (by omega) (by omega)).trans (bcell hbn b o hb))
      have HL1 : Hid ((p1.map Prod.fst).length = G1.length * 1) := Lib.hid (by rw [List.length_map, HO1.out.len, Nat.mul_one])
      have HL2 : Hid ((p2.map Prod.fst).length = G2.length * 1) := Lib.hid (by rw [List.length_map, HO2.out.len, Nat.mul_one])
      have HE1 := Lib.hid (ownFS_one HO1.out)
      have HE2 := Lib.hid (ownFS_one HO2.out)
      have HBN := Lib.hid hbn
      clear hbn
      go_wp2_with (at_builtin; first | (refine wpList_append_own_at _ rfl _ _ 24 rfl w7.heap.size 28 i0 (.agg #[.slice none 0 0]) 1 24 Try.underlying24 hi0 hz0 hz1 hz2 rfl (by decide) _ _ _ rfl HX8.out ⟨g2, 0, none⟩ G2.length G2.length (p2.map Prod.fst) rfl HL2.out (HC2.out _ HO8.out) HE2.out (by unfold maxLen; omega) (by omega) (by omega) ?_; intro v9 w9 hown9 hgrow9 hnil9 hat9; obtain ⟨g9, c9, hv9⟩ := own_slice hown9 (fun e => HN8.out (hnil9.1 e).1); subst hv9) | (refine wpList_append_own_at _ rfl _ _ 24 rfl w7.heap.size 28 i0 (.agg #[.slice none 0 0]) 1 24 Try.underlying24 hi0 hz0 hz1 hz2 rfl (by decide) _ _ _ rfl HR.out ⟨g1, 0, none⟩ G1.length G1.length (p1.map Prod.fst) rfl HL1.out HC1.out HE1.out (by unfold maxLen; omega) (by omega) (by omega) ?_; intro v8 w8 hown8 hgrow8 hnil8 hat8; have ho8 : Only (w7.alloc (.cells #[] 28)) w8 (fun b => b = w7.heap.size) := Only.of_grown hgrow8 (fun g e => by injection e with e; exact e.symm); have HO8 := Lib.hid ho8; have HX8 := Lib.hid hown8; have hs8 : w7.heap.size ≤ w8.heap.size := (by have := ho8.size; omega); have HN8 : Hid (v8 ≠ .slice none 0 0) := Lib.hid (fun e => by have := (hnil8.1 e).1; cases this); clear hown8 hgrow8 hnil8 hat8 ho8))
      have ho9 : Only w8 w9 (fun b => w7.heap.size ≤ b) := Only.of_grown hgrow9 (fun g e => (World.ownsRow.lt HX8.out g e).1)
      have hoo : Only w7 w9 (fun b => w7.heap.size ≤ b) := ((Only.of_below (F := fun b => w7.heap.size ≤ b) HBN.out).trans HO8.out (fun i hi e => by show w7.heap.size ≤ i; omega)).trans ho9 (fun _ _ e => e)
      have hb9 : Below w7.heap.size w7 w9 := hoo.below (Nat.le_refl _) (fun g e => e)
      have hcp := both_copy HO1.out HO2.out (fun b hb o => hoo.cell hb (by show ¬ w7.heap.size ≤ b; omega)) hoo.size (by rw [List.length_append]; omega) hown9
      have F9 := Lib.hid hcp
      replace HB := Lib.hid (below_via HB.out hb9)
      replace Y1 := Lib.hid (Y1.out.step hb9)
      obtain ⟨n9, hn9⟩ : ∃ n9, G1.length + G2.length = n9 := ⟨_, rfl⟩
      have hn9' : n9 = ((lastN f1).1 ++ (lastN f1).2).length := by rw [← hlen, List.length_append]; omega
      rw [Nat.zero_add, hn9] at F9
      rw [hn9]
      have hn9b : n9 ≤ 48 := by omega
      have HLQ : Hid ((G1 ++ G2).length = n9) := Lib.hid (by rw [List.length_append]; exact hn9)
      clear ho9 hoo hb9 hcp hown9 hgrow9 hnil9 hat9 HR HC1 HC2 HL1 HL2 HE1 HE2 HBN HX8 HO8 HN8 HO1 HO2 hs8 hzn hn9 hlen
      obtain ⟨L, hL⟩ : ∃ L, (lastN f1).1 ++ (lastN f1).2 = L := ⟨_, rfl⟩
      rw [hL] at HAT hn9'
      have HBM : Hid ((bornV f1 : Int) = mostK (bOf (f1.map downN)) L n9 + 1) := Lib.hid (by rw [hn9', ← hL]; exact born_most HG1.out)
      clear hn9'
      have HPT : Hid (partB f1 ((f1.length - 1 : Nat) : Int) = true) := Lib.hid (by unfold partB; rw [HG1.out, Bool.true_and, Bool.and_eq_true]; exact ⟨decide_eq_true (by omega), decide_eq_true (by omega)⟩)
      have HPV : Hid (partV f1 ((f1.length - 1 : Nat) : Int) = f1) := Lib.hid (by unfold partV; rw [if_pos HPT.out, Int.toNat_natCast]; exact part_top HG1.out)
      have HBL : Hid (bornV f1 < f1.length) := Lib.hid (by
        unfold bornV
        rw [HG1.out]
        have := bornsTake_get (f1.map downN) ((goodB_iff f1).1 HG1.out).2.1.up.2.under (f1.map downN).length (f1.length - 1) (Nat.le_refl _) (by rw [List.length_map]; omega)
        rw [List.take_length, List.length_map] at this
        exact this)
      clear hL
      go_wp2
      go_loopw [4, 16] (fun v i wr => ∃ k : Nat, k ≤ n9 ∧ i = .int .i64 k ∧ v = .int .i64 (mostK (bOf (f1.map downN)) L k) ∧ Hid (Below w9.heap.size w9 wr)) (fun _ i _ => n9 - (intOf i).toNat)
      case atStart => exact ⟨0, Nat.zero_le _, rfl, by rw [mostK_zero], Lib.hid (Below.refl _ _)⟩
      case round =>
        obtain ⟨k2, hk2, rfl, rfl, hB⟩ := hrel
        have k0 : (0 : Int) ≤ k2 := by omega
        by_cases hlt2 : k2 < n9
        · have k1 : (k2 : Int) < n9 := by omega
          obtain ⟨q, hq⟩ : ∃ q, (G1 ++ G2)[k2]? = some q := lt_get (by rw [HLQ.out]; exact hlt2)
          obtain ⟨x, hx, hgq, hbq⟩ := HAT.out k2 q hq
          obtain ⟨b, off, vx, ex, px, cx⟩ := (F9.out.below hB.out).at_ hq
          obtain ⟨rfl, rfl⟩ : g9 = b ∧ 0 = off := by
            injection ex with ex
            injection ex with e1 e2 e3
            exact ⟨e1, e2⟩
          clear ex
          rw [Nat.zero_add] at px
          obtain ⟨lo, hi, hh, hn⟩ := cx
          obtain ⟨av, cv, hvx⟩ : ∃ a c, vx = .slice a q.length c := by obtain ⟨a, c, e, _⟩ := hn; exact ⟨a, c, e⟩
          subst hvx
          have C := bornI_calls _ q wr lo hi hh hn
          rw [hgq, hbq] at C
          have C := Lib.hid C
          have HMS := Lib.hid (mostK_succ (bOf (f1.map downN)) L hx)
          clear hgq hbq hn hh hq hx
          go_wp2_with fail
          refine C.out.mono ?_
          rintro e w10 ⟨rfl, hb⟩
          have HB10 := Lib.hid (below_via hB.out hb)
          clear hb C hB px
          by_cases hgt : mostK (bOf (f1.map downN)) L k2 < (bOf (f1.map downN) x : Int)
          · have HM2 : Hid (mostK (bOf (f1.map downN)) L (k2 + 1) = (bOf (f1.map downN) x : Int)) := Lib.hid (by rw [HMS.out, if_pos hgt])
            go_wp2
            go_roundw
            case rel => exact ⟨k2 + 1, by omega, by go_num, by rw [HM2.out], HB10⟩
            case measure => simp [intOf]; omega
          · have HM2 : Hid (mostK (bOf (f1.map downN)) L (k2 + 1) = mostK (bOf (f1.map downN)) L k2) := Lib.hid (by rw [HMS.out, if_neg hgt])
            go_wp2
            go_roundw
            case rel => exact ⟨k2 + 1, by omega, by go_num, by rw [HM2.out], HB10⟩
            case measure => simp [intOf]; omega
        · obtain rfl : k2 = n9 := by omega
          have k1 : ¬ (k2 : Int) < k2 := by omega
          obtain ⟨M, hM⟩ : ∃ M, mostK (bOf (f1.map downN)) L k2 = M := ⟨_, rfl⟩
          have hbm := HBM.out
          have hbl := HBL.out
          rw [hM] at hbm ⊢
          have i2 : IntKind.i64.wrap (M + 1) = (bornV f1 : Int) := by rw [IntWalk.i64_in _ (by omega)]; omega
          have i3 : IntKind.i64.wrap ((f1.length : Int) - 1) = ((f1.length - 1 : Nat) : Int) := by rw [IntWalk.i64_in _ (by omega)]; omega
          replace HB := Lib.hid (below_via HB.out hB.out)
          replace Y1 := Lib.hid (Y1.out.step hB.out)
          clear hB hM hbm hbl HBM HBL HAT F9 hk2
          obtain ⟨kY1, loY1, hiY1, hhY1, nY1⟩ := Y1.out
          have C := bornI_calls _ f1 wr loY1 hiY1 hhY1 nY1
          rw [HG1.out] at C
          have C := Lib.hid C
          clear hhY1 nY1
          go_wp2_with fail
          refine C.out.mono ?_
          rintro e w11 ⟨rfl, hb⟩
          replace HB := Lib.hid (below_via HB.out hb)
          replace Y1 := Lib.hid (Y1.out.step hb)
          clear hb C kY1
          obtain ⟨kY1, loY1, hiY1, hhY1, nY1⟩ := Y1.out
          have C := Lib.hid (partAtI_calls _ f1 f1 ((f1.length - 1 : Nat) : Int) true HPT HPV w11 loY1 hiY1 hhY1 nY1)
          clear hhY1 nY1
          go_wp2_with fail
          refine C.out.mono ?_
          rintro e wa6 ⟨a4, c4, vs4, rfl, ho, hb⟩
          have hst := below_via hb (below_new wa6 (.cells #[.slice a4 f1.length c4] 28))
          replace HB := Lib.hid (below_via HB.out hst)
          replace Y1 := Lib.hid (Y1.out.step hst)
          have Y4 := Lib.hid (BoxF.new (copyOf_nodes ho.nodesZ) 28)
          clear ho hb hst C 
          clear kY1
          go_upto_region 25 with fail
          generalize (wa6.alloc (.cells #[.slice a4 f1.length c4] 28)) = wm6 at HB Y1 Y4 ⊢
          generalize wa6.heap.size = DY4 at Y4 ⊢
          have C := Lib.hid (vSame_box Y4.out.2 Y1.out.2)
          have kY4 := Y4.out.1
          have kY1 := Y1.out.1
          go_wp2_with fail
          refine C.out.mono ?_
          rintro e wa7 ⟨rfl, hb⟩
          replace HB := Lib.hid (below_via HB.out hb)
          replace Y1 := Lib.hid (Y1.out.step hb)
          replace Y4 := Lib.hid (Y4.out.step hb)
          clear hb C kY4 kY1
          go_wp2_with fail
          go_ret
          exact ⟨rfl, HB.out⟩

end Go.Proofs.Ytabfdaofikccmaa
