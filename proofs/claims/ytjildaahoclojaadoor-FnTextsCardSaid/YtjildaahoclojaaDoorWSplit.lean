/- The walk of laws.FnSplit: what is split is put together again; both ways of putting together agree. -/
import Derived.Test.YtjildaahoclojaaDoorSplitJoin
import Derived.Test.YtjildaahoclojaaDoorWSplitText
import Derived.Test.YtjildaahoclojaaDoorJoinI
import Derived.Test.YtjildaahoclojaaDoorDrawJoin
import Derived.ProofKit
import Derived.OpenShut
namespace Go.Proofs.YtjildaahoclojaaDoor
open Go.RowKit

theorem codeIn_open {a : Addr} {len cap : Nat} {zs : List Int} {w : World} (hl : len ≤ cap) (hz : zs.length = cap)
    (hcell : ∀ i, i < zs.length → w.cell? (a.add i) = some (.int .u8 (zs.getD i 0))) (hw : ∀ z ∈ zs, (Lit.int .u8 z).wf = true) : CodeIn w (.slice (some a) len cap) len := by
  by_cases h0 : len = 0
  · subst h0
    exact Or.inl ⟨_, _, rfl, rfl⟩
  · obtain ⟨b, off, spot⟩ := a
    have hspot : spot = none := by simpa [Addr.add] using World.cell?_spot (hcell 0 (by omega))
    subst hspot
    refine Or.inr ⟨b, off, cap, rfl, by omega, fun j hj => ?_⟩
    have hc := hcell j (by omega)
    rw [Go.WideShapes.add_plain] at hc
    have hm : zs.getD j 0 ∈ zs := by
      rw [List.getD_eq_getElem?_getD, List.getElem?_eq_getElem (by omega)]
      exact List.getElem_mem _
    have hb := bounds_u8 (hw _ hm)
    refine ⟨(zs.getD j 0).toNat, by omega, ?_⟩
    rw [hc]
    congr 2
    omega

theorem lstAt {W0 w : World} {v : Value} {l : List ByteArray} (h : Lst W0 w v l) : ∃ g c, v = .slice (some ⟨g, 0, none⟩) l.length c ∧ l.length ≤ c ∧ g < w.heap.size ∧ StrsAt w g l := by
  obtain ⟨h1, g, c, rfl⟩ := h
  exact ⟨g, c, rfl, ownsCap h1, (World.ownsRow.lt h1 g rfl).2, ownsAt h1⟩

theorem lessI (a b : ByteArray) (w : World) (v : Bool) (h : Op.bytesLess a.toList b.toList = v) :
    Calls Tryd.prog 29 #[.string a, .string b] w fun e w' => e = .returned (.bool v) ∧ w = w' := by
  go_enter Tryd.func29, Tryd.ntmps29
  go_wp2_with fail
  go_ret
  exact ⟨rfl, rfl⟩

theorem lessS (a b : ByteArray) (w : World) (v : Bool) (h : Op.bytesLess a.toList b.toList = v) :
    Calls Tryd.prog 30 #[.string a, .string b] w fun e w' => e = .returned (.bool v) ∧ w = w' := by
  go_enter Tryd.func30, Tryd.ntmps30
  go_wp2_with fail
  go_ret
  exact ⟨rfl, rfl⟩

theorem vBig_no (ao : Option Addr) (n c : Nat) (w : World) (hn : n ≤ 65536) :
    Calls Tryd.prog 10 #[.slice ao n c] w fun e w' => e = .returned (.bool false) ∧ w = w' := by
  go_enter Tryd.func10, Tryd.ntmps10
  go_wp2
  go_ret
  exact ⟨ret_bool (by simp; omega), rfl⟩

theorem vBig_yes (ao : Option Addr) (n c : Nat) (w : World) (hn : 65536 < n) (hm : n ≤ 9223372036854775807) :
    Calls Tryd.prog 10 #[.slice ao n c] w fun e w' => e = .returned (.bool true) ∧ w = w' := by
  go_enter Tryd.func10, Tryd.ntmps10
  go_wp2
  go_ret
  exact ⟨ret_bool (by simp; omega), rfl⟩

theorem mem_sumSz' : ∀ (l : List ByteArray) (x : ByteArray), x ∈ l → x.size ≤ sumSz l
  | [], x, h => by cases h
  | y :: r, x, h => by
    have e : sumSz (y :: r) = y.size + sumSz r := by simp [sumSz]
    rcases List.mem_cons.1 h with rfl | h
    · omega
    · have := mem_sumSz' r x h
      omega

set_option maxRecDepth 100000 in
set_option maxHeartbeats 2000000 in
theorem fnSplit_walk (ao : Option Addr) (n c : Nat) (w : World) (hc : CodeIn w (.slice ao n c) n) (hn : n ≤ maxLen) (m : Int) (hm : w.cell? ⟨2, 0, none⟩ = some (.int .i64 m)) :
    Calls Tryd.prog 4 #[.slice ao n c] w fun e w' => e = .returned (.bool true) ∧ Below w.heap.size w w' := by
  unfold maxLen at hn
  by_cases hA : 65536 < n
  · have HV := Lib.hid (vBig_yes ao n c w hA hn)
    clear hc hm
    go_enter Tryd.func4, Tryd.ntmps4
    go_wp2_with fail
    refine HV.out.mono ?_
    rintro e w1 ⟨rfl, rfl⟩
    go_wp2_with fail
    go_ret
    exact ⟨rfl, Below.refl _ _⟩
  · have HV := Lib.hid (vBig_no ao n c w (by omega))
    have hn2 : n ≤ 1000000 := by omega
    have HD1 := Lib.hid (drawSplitText_calls ao n c w hc hn2)
    have HS : ∀ s t, ByteArray.size s ≤ 10 → ByteArray.size t ≤ 10 → ∀ W : World, Below w.heap.size w W → Hid (Calls Tryd.prog 24 #[.string s, .string t] W fun e w' => AnsStrs W (splitR s t).1 (splitR s t).2 e w') := fun s t h1 h2 W hb =>
      Lib.hid (splitI_calls s t m W (by omega) (by omega) ((hb.cell (p := ⟨2, 0, none⟩) (block_of_cell hm)).trans hm))
    have HD2 : ∀ W : World, Below w.heap.size w W → Hid (Calls Tryd.prog 25 #[.slice ao n c] W fun e w' => (∃ v l y, e = .returned (.tuple #[v, .string y]) ∧ l.length ≤ 5 ∧ (∀ x ∈ l, ByteArray.size x ≤ 5000) ∧ y.size ≤ 10 ∧ Lst W w' v l) ∧ Below W.heap.size W w') := fun W hb =>
      Lib.hid (drawJoinTexts_calls ao n c W (hc.below hb) hn2)
    have HD3 : ∀ W : World, Below w.heap.size w W → Hid (Calls Tryd.prog 28 #[.slice ao n c] W fun e w' => (∃ x y : ByteArray, x.size ≤ 10 ∧ y.size ≤ 10 ∧ e = .returned (.tuple #[.string x, .string y])) ∧ Below W.heap.size W w') := fun W hb =>
      Lib.hid (drawLessText_calls ao n c W (hc.below hb) hn2)
    clear hc hm hn hA hn2
    go_enter Tryd.func4, Tryd.ntmps4
    go_wp2_with fail
    refine HV.out.mono ?_
    rintro e w1 ⟨rfl, rfl⟩
    go_wp2_with fail
    refine HD1.out.mono ?_
    rintro e w1 ⟨⟨x, y, hx, hy, rfl⟩, hb1⟩
    have HB1 := Lib.hid hb1
    clear hb1
    go_wp2_with fail
    refine (HS x y hx hy w1 HB1.out).out.mono ?_
    rintro e w2 ⟨g2, c2, rfl, ho2, hb2⟩
    have HB2 : Hid (Below w.heap.size w w2) := Lib.hid (HB1.out.trans (hb2.mono HB1.out.size))
    have hg2 : g2 < w2.heap.size := ho2.ge.2
    have HA2 : Hid (StrsAt w2 g2 (splitR x y).1) := Lib.hid (ho2.at rfl)
    have hc2 : (splitR x y).1.length ≤ c2 := ownsCap ho2
    clear ho2 hb2
    go_wp2_with fail
    refine (HD2 w2 HB2.out).out.mono ?_
    rintro e w3 ⟨⟨v, l, t, rfl, hl5, hl6, ht, hlst⟩, hb3⟩
    obtain ⟨g3, c3, rfl, hc3, hg3, ha3⟩ := lstAt hlst
    have HA3 := Lib.hid ha3
    have HB3 : Hid (Below w.heap.size w w3) := Lib.hid (HB2.out.trans (hb3.mono HB2.out.size))
    have HA23 : Hid (StrsAt w3 g2 (splitR x y).1) := Lib.hid (HA2.out.below hb3 hg2)
    have hg23 : g2 < w3.heap.size := by have := hb3.size; omega
    have HI := Lib.hid (joinI_calls g3 c3 l t w3 hc3 (by omega) (by omega) (fun z hz => by have := hl6 z hz; omega) hg3 ha3)
    have HJS : ∀ W, StrsAt W g3 l → Hid (Calls Tryd.prog 27 #[.slice (some ⟨g3, 0, none⟩) l.length c3, .string t] W fun e w' => JoinTo l t e ∧ ∃ m, w' = W.drewN m) := fun W hW => Lib.hid (joinS_calls g3 c3 l t W (by omega) (by omega) (fun z hz => by have := hl6 z hz; omega) hW)
    clear hlst hb3 hl6 ha3
    go_wp2_with fail
    refine HI.out.mono ?_
    rintro e w4 ⟨hj, hb4⟩
    obtain ⟨s4, b4, rfl, hj4⟩ := joinTo_pair hj
    have HJ4 := Lib.hid hj4
    have HB4 : Hid (Below w.heap.size w w4) := Lib.hid (HB3.out.trans (hb4.mono HB3.out.size))
    have HA4 : Hid (StrsAt w4 g3 l) := Lib.hid (HA3.out.below hb4 hg3)
    have HA24 : Hid (StrsAt w4 g2 (splitR x y).1) := Lib.hid (HA23.out.below hb4 hg23)
    have hg24 : g2 < w4.heap.size := by have := hb4.size; omega
    clear hj hj4 hb4 HI
    go_wp2_with fail
    refine (HJS w4 HA4.out).out.mono ?_
    rintro e w5 ⟨hj, m5, rfl⟩
    obtain ⟨s5, b5, rfl, hj5⟩ := joinTo_pair hj
    obtain ⟨e1, e2⟩ := joinTo_unique HJ4.out hj5
    clear hj hj5 HJ4
    subst e1 e2
    have HB5 : Hid (Below w.heap.size w (w4.drewN m5)) := Lib.hid ⟨HB4.out.os, HB4.out.tape, HB4.out.output, HB4.out.size, HB4.out.block⟩
    go_wp2_with fail
    refine (HD3 _ HB5.out).out.mono ?_
    rintro e w6 ⟨⟨p, q, hp, hq, rfl⟩, hb6⟩
    have HB6 : Hid (Below w.heap.size w w6) := Lib.hid (HB5.out.trans (hb6.mono HB5.out.size))
    have HA26 : Hid (StrsAt w6 g2 (splitR x y).1) := Lib.hid ((HA24.out.drewN m5).below hb6 hg24)
    have hg26 : g2 < w6.heap.size := by have : w4.heap.size ≤ w6.heap.size := hb6.size; omega
    clear hb6
    go_wp2_with fail
    obtain ⟨u, hu⟩ : ∃ u, Op.bytesLess p.toList q.toList = u := ⟨_, rfl⟩
    cases u
    · have H1 : ∀ W, Hid (Calls Tryd.prog 29 #[.string p, .string q] W fun e w' => e = .returned (.bool false) ∧ W = w') := fun W => Lib.hid (lessI p q W false hu)
      have H2 : ∀ W, Hid (Calls Tryd.prog 30 #[.string p, .string q] W fun e w' => e = .returned (.bool false) ∧ W = w') := fun W => Lib.hid (lessS p q W false hu)
      clear hu
      by_cases hy1 : y.size = 1
      · obtain ⟨b, rfl⟩ := one_byte hy1
        have hr : splitR x ⟨#[b]⟩ = (spAll x b, true) := by
          unfold splitR
          rw [dif_pos ⟨rfl, by omega⟩]
          rfl
        have h26 := HA26.out
        rw [hr] at h26 hc2
        have hl11 : (spAll x b).length ≤ 11 := by
          have := (spSt_le x b x.size).2
          simp [spAll]
          omega
        have hps : ∀ z ∈ spAll x b, ByteArray.size z ≤ 1048576 := fun z hz => by
          have h1 := sp_join x b
          have h2 := congrArg List.length h1
          rw [jnL_len (spAll x b) b _ (by simp [spAll]) (Nat.le_refl _), List.take_length] at h2
          have h3 := mem_sumSz' (spAll x b) z hz
          simp at h2
          omega
        have HJI : Hid (Calls Tryd.prog 26 #[.slice (some ⟨g2, 0, none⟩) (spAll x b).length c2, .string ⟨#[b]⟩] w6 fun e w' => JoinTo (spAll x b) ⟨#[b]⟩ e ∧ Below w6.heap.size w6 w') :=
          Lib.hid (joinI_calls g2 c2 (spAll x b) ⟨#[b]⟩ w6 hc2 (by have : (⟨#[b]⟩ : ByteArray).size = 1 := rfl; omega) (by omega) hps hg26 h26)
        have HSJ := Lib.hid (sp_joinTo (s := x) (b := b) (by omega))
        have HR1 : Hid ((splitR x ⟨#[b]⟩).1 = spAll x b) := Lib.hid (by rw [hr])
        have HR2 : Hid ((splitR x ⟨#[b]⟩).2 = true) := Lib.hid (by rw [hr])
        clear hr h26 hps hl11 hc2 HA26 HA2 HA23 HA24
        rw [HR1.out, HR2.out]
        refine (H1 w6).out.mono ?_
        rintro e w7 ⟨rfl, rfl⟩
        go_wp2_with fail
        refine (H2 w6).out.mono ?_
        rintro e w7 ⟨rfl, rfl⟩
        go_wp2_with fail
        refine (H1 w6).out.mono ?_
        rintro e w7 ⟨rfl, rfl⟩
        go_wp2_with fail
        refine HJI.out.mono ?_
        rintro e w7 ⟨hj, hb7⟩
        obtain ⟨s7, b7, rfl, hj7⟩ := joinTo_pair hj
        obtain ⟨e1, e2⟩ := joinTo_unique HSJ.out hj7
        have HB7 : Hid (Below w.heap.size w w7) := Lib.hid (HB6.out.trans (hb7.mono HB6.out.size))
        clear hj hj7 hb7 HSJ
        subst e1 e2
        go_wp2_with fail
        go_ret
        exact ⟨rfl, HB7.out⟩
      · have hr : splitR x y = ([], false) := by
          unfold splitR
          rw [dif_neg (by omega)]
        have HR1 : Hid ((splitR x y).1 = []) := Lib.hid (by rw [hr])
        have HR2 : Hid ((splitR x y).2 = false) := Lib.hid (by rw [hr])
        have hy2 : ((y.size : Int) != 1) = true := by rw [bne_iff_ne]; omega
        have hy3 : ((y.size : Int) == 1) = false := by rw [beq_eq_false_iff_ne]; omega
        clear hr hc2 HA26 HA2 HA23 HA24
        rw [HR1.out, HR2.out]
        refine (H1 w6).out.mono ?_
        rintro e w7 ⟨rfl, rfl⟩
        go_wp2_with fail
        refine (H2 w6).out.mono ?_
        rintro e w7 ⟨rfl, rfl⟩
        go_wp2_with fail
        refine (H1 w6).out.mono ?_
        rintro e w7 ⟨rfl, rfl⟩
        go_wp2_with fail
        go_ret
        exact ⟨rfl, HB6.out⟩
    · have hu2 := less_not _ _ hu
      have H1 : ∀ W, Hid (Calls Tryd.prog 29 #[.string p, .string q] W fun e w' => e = .returned (.bool true) ∧ W = w') := fun W => Lib.hid (lessI p q W true hu)
      have H2 : ∀ W, Hid (Calls Tryd.prog 30 #[.string p, .string q] W fun e w' => e = .returned (.bool true) ∧ W = w') := fun W => Lib.hid (lessS p q W true hu)
      have H3 : ∀ W, Hid (Calls Tryd.prog 29 #[.string q, .string p] W fun e w' => e = .returned (.bool false) ∧ W = w') := fun W => Lib.hid (lessI q p W false hu2)
      clear hu hu2
      by_cases hy1 : y.size = 1
      · obtain ⟨b, rfl⟩ := one_byte hy1
        have hr : splitR x ⟨#[b]⟩ = (spAll x b, true) := by
          unfold splitR
          rw [dif_pos ⟨rfl, by omega⟩]
          rfl
        have h26 := HA26.out
        rw [hr] at h26 hc2
        have hl11 : (spAll x b).length ≤ 11 := by
          have := (spSt_le x b x.size).2
          simp [spAll]
          omega
        have hps : ∀ z ∈ spAll x b, ByteArray.size z ≤ 1048576 := fun z hz => by
          have h1 := sp_join x b
          have h2 := congrArg List.length h1
          rw [jnL_len (spAll x b) b _ (by simp [spAll]) (Nat.le_refl _), List.take_length] at h2
          have h3 := mem_sumSz' (spAll x b) z hz
          simp at h2
          omega
        have HJI : Hid (Calls Tryd.prog 26 #[.slice (some ⟨g2, 0, none⟩) (spAll x b).length c2, .string ⟨#[b]⟩] w6 fun e w' => JoinTo (spAll x b) ⟨#[b]⟩ e ∧ Below w6.heap.size w6 w') :=
          Lib.hid (joinI_calls g2 c2 (spAll x b) ⟨#[b]⟩ w6 hc2 (by have : (⟨#[b]⟩ : ByteArray).size = 1 := rfl; omega) (by omega) hps hg26 h26)
        have HSJ := Lib.hid (sp_joinTo (s := x) (b := b) (by omega))
        have HR1 : Hid ((splitR x ⟨#[b]⟩).1 = spAll x b) := Lib.hid (by rw [hr])
        have HR2 : Hid ((splitR x ⟨#[b]⟩).2 = true) := Lib.hid (by rw [hr])
        clear hr h26 hps hl11 hc2 HA26 HA2 HA23 HA24
        rw [HR1.out, HR2.out]
        refine (H1 w6).out.mono ?_
        rintro e w7 ⟨rfl, rfl⟩
        go_wp2_with fail
        refine (H2 w6).out.mono ?_
        rintro e w7 ⟨rfl, rfl⟩
        go_wp2_with fail
        refine (H1 w6).out.mono ?_
        rintro e w7 ⟨rfl, rfl⟩
        go_wp2_with fail
        refine (H3 w6).out.mono ?_
        rintro e w7 ⟨rfl, rfl⟩
        go_wp2_with fail
        refine HJI.out.mono ?_
        rintro e w7 ⟨hj, hb7⟩
        obtain ⟨s7, b7, rfl, hj7⟩ := joinTo_pair hj
        obtain ⟨e1, e2⟩ := joinTo_unique HSJ.out hj7
        have HB7 : Hid (Below w.heap.size w w7) := Lib.hid (HB6.out.trans (hb7.mono HB6.out.size))
        clear hj hj7 hb7 HSJ
        subst e1 e2
        go_wp2_with fail
        go_ret
        exact ⟨rfl, HB7.out⟩
      · have hr : splitR x y = ([], false) := by
          unfold splitR
          rw [dif_neg (by omega)]
        have HR1 : Hid ((splitR x y).1 = []) := Lib.hid (by rw [hr])
        have HR2 : Hid ((splitR x y).2 = false) := Lib.hid (by rw [hr])
        have hy2 : ((y.size : Int) != 1) = true := by rw [bne_iff_ne]; omega
        have hy3 : ((y.size : Int) == 1) = false := by rw [beq_eq_false_iff_ne]; omega
        clear hr hc2 HA26 HA2 HA23 HA24
        rw [HR1.out, HR2.out]
        refine (H1 w6).out.mono ?_
        rintro e w7 ⟨rfl, rfl⟩
        go_wp2_with fail
        refine (H2 w6).out.mono ?_
        rintro e w7 ⟨rfl, rfl⟩
        go_wp2_with fail
        refine (H1 w6).out.mono ?_
        rintro e w7 ⟨rfl, rfl⟩
        go_wp2_with fail
        refine (H3 w6).out.mono ?_
        rintro e w7 ⟨rfl, rfl⟩
        go_wp2_with fail
        go_ret
        exact ⟨rfl, HB6.out⟩

end Go.Proofs.YtjildaahoclojaaDoor
