/- The walk of laws.FnThree. -/
import Derived.Test.YtabfdaofikccmaaVBig
import Derived.Test.YtabfdaofikccmaaDrAll
import Derived.Test.YtabfdaofikccmaaVSame
import Derived.Test.YtabfdaofikccmaaBoxF
import Derived.Test.YtabfdaofikccmaaThM
import Derived.Test.YtabfdaofikccmaaSpAll
import Derived.Test.YtabfdaofikccmaaGpAll
namespace Go.Proofs.Ytabfdaofikccmaa
open Go.RowKit
set_option linter.unusedVariables false
set_option linter.unusedSimpArgs false

set_option maxRecDepth 100000 in
set_option maxHeartbeats 8000000 in
theorem fnThree_walk (ao : Option Addr) (n c : Nat) (w : World) (hc : CodeIn w (.slice ao n c) n) (hnc : n ≤ c) (hm : c ≤ 9223372036854775807) (hz : ao = none → c = 0) :
    Calls Try.prog 3 #[.slice ao n c] w fun e w' => e = .returned (.bool true) ∧ Below w.heap.size w w' := by
  have HC := Lib.hid fun (W : World) (hW : Below w.heap.size w W) => hc.below hW
  have HV := Lib.hid (vBig_calls ao n c w)
  by_cases hbig : 65536 < n
  · rw [decide_eq_true hbig] at HV
    clear hc hm hz hnc
    go_enter Try.func3, Try.ntmps3
    go_wp2_with fail
    refine HV.out.mono ?_
    rintro e w1 ⟨rfl, rfl⟩
    go_wp2_with fail
    go_ret
    exact ⟨rfl, Below.refl _ _⟩
  rw [decide_eq_false hbig] at HV
  have HN := Lib.hid (show n ≤ 65536 by omega)
  have HCC := Lib.hid (And.intro hnc (And.intro hm hz))
  clear hc hm hz hnc hbig
  go_enter Try.func3, Try.ntmps3
  go_wp2_with fail
  refine HV.out.mono ?_
  rintro e w0 ⟨rfl, rfl⟩
  clear HV
  have HB := Lib.hid (Below.refl w0.heap.size w0)
  have C := Lib.hid (drawGreatest_calls ao n c w0 (HC.out _ HB.out) (by have := HN.out; omega))
  clear HC HN HCC
  go_wp2_with fail
  refine C.out.mono ?_
  rintro e w1 ⟨g, cg, Gs, rfl, hlen, hFZ, hb⟩
  replace HB := Lib.hid (below_via HB.out hb)
  clear hb C
  by_cases hlt : Gs.length < 3
  · have l1 : (Gs.length : Int) < 3 := by omega
    clear hFZ
    go_wp2_with fail
    go_ret
    exact ⟨rfl, HB.out⟩
  have l1 : ¬ (Gs.length : Int) < 3 := by omega
  obtain ⟨f1, hf1⟩ : ∃ f, Gs[0]? = some f := lt_get (by omega)
  obtain ⟨f2, hf2⟩ : ∃ f, Gs[1]? = some f := lt_get (by omega)
  obtain ⟨f3, hf3⟩ : ∃ f, Gs[2]? = some f := lt_get (by omega)
  obtain ⟨ag, cg2, eg, _, hget⟩ := hFZ
  injection eg with eg eg2 eg3
  subst eg
  obtain ⟨b1, o1, u1, e1, r1, s1, t1, m1⟩ := hget 0 f1 hf1
  injection e1 with e1
  injection e1 with e1 e1' _
  subst e1 e1'
  have Q1 : Hid (CopyOf w1 u1 f1) := Lib.hid ⟨_, _, Nat.le_refl _, m1⟩
  obtain ⟨b2, o2, u2, e2, r2, s2, t2, m2⟩ := hget 1 f2 hf2
  injection e2 with e2
  injection e2 with e2 e2' _
  subst e2 e2'
  have Q2 : Hid (CopyOf w1 u2 f2) := Lib.hid ⟨_, _, Nat.le_refl _, m2⟩
  obtain ⟨b3, o3, u3, e3, r3, s3, t3, m3⟩ := hget 2 f3 hf3
  injection e3 with e3
  injection e3 with e3 e3' _
  subst e3 e3'
  have Q3 : Hid (CopyOf w1 u3 f3) := Lib.hid ⟨_, _, Nat.le_refl _, m3⟩
  have hgl := block_of_cell t1
  simp only [Nat.zero_add] at t1 t2 t3
  clear hget m1 m2 m3 hf1 hf2 hf3 r1 r2 r3 s1 s2 s3
  have q0 : (0 : Int) < Gs.length := by omega
  have qn0 : 0 < Gs.length := by omega
  have q1 : (1 : Int) < Gs.length := by omega
  have qn1 : 1 < Gs.length := by omega
  have q2 : (2 : Int) < Gs.length := by omega
  have qn2 : 2 < Gs.length := by omega
  obtain ⟨a1, c1, hs1⟩ : ∃ a c, u1 = .slice a f1.length c := by obtain ⟨_, _, _, hn⟩ := Q1.out; obtain ⟨a, c, e, _⟩ := hn; exact ⟨a, c, e⟩
  subst hs1
  obtain ⟨a2, c2, hs2⟩ : ∃ a c, u2 = .slice a f2.length c := by obtain ⟨_, _, _, hn⟩ := Q2.out; obtain ⟨a, c, e, _⟩ := hn; exact ⟨a, c, e⟩
  subst hs2
  obtain ⟨a3, c3, hs3⟩ : ∃ a c, u3 = .slice a f3.length c := by obtain ⟨_, _, _, hn⟩ := Q3.out; obtain ⟨a, c, e, _⟩ := hn; exact ⟨a, c, e⟩
  subst hs3
  go_upto_region 6 with fail
  go_cut [4, 5, 6] (fun s4 s5 s6 wx => ∃ p q r : Nat, s4 = .pointer (some ⟨p, 0, none⟩) ∧ s5 = .pointer (some ⟨q, 0, none⟩) ∧ s6 = .pointer (some ⟨r, 0, none⟩) ∧ BoxF wx p (.slice a1 f1.length c1) f1 ∧ BoxF wx q (.slice a2 f2.length c2) f2 ∧ BoxF wx r (.slice a3 f3.length c3) f3 ∧ Below w1.heap.size w1 wx)
  case first =>
    have hbd : Below w1.heap.size w1 w1.drew := below_drewN (Below.refl _ _) 1
    have hzd : w1.drew.heap.size = w1.heap.size := by simp
    have HSW := Lib.hid fun (W : World) (hW : Below w1.heap.size w1 W) => show (fun W : World => W.cell? ⟨g, 0, none⟩ = some (.slice a1 f1.length c1) ∧ W.cell? ⟨g, 1, none⟩ = some (.slice a2 f2.length c2) ∧ W.cell? ⟨g, 2, none⟩ = some (.slice a3 f3.length c3)) W from ⟨(bcell hW _ _ hgl).trans t1, (bcell hW _ _ hgl).trans t2, (bcell hW _ _ hgl).trans t3⟩
    have HQ1 := Lib.hid (Q1.out.below hbd)
    have HQ2 := Lib.hid (Q2.out.below hbd)
    have HQ3 := Lib.hid (Q3.out.below hbd)
    have hS0 := HSW.out _ hbd
    have hA1 : Below w1.heap.size w1 (w1.drew.alloc (.cells #[.slice none 0 0] 28)) := below_via hbd (below_new _ _)
    have hA2 : Below w1.heap.size w1 ((w1.drew.alloc (.cells #[.slice none 0 0] 28)).alloc (.cells #[.slice none 0 0] 28)) := below_via hA1 (below_new _ _)
    have hA3 : Below w1.heap.size w1 (((w1.drew.alloc (.cells #[.slice none 0 0] 28)).alloc (.cells #[.slice none 0 0] 28)).alloc (.cells #[.slice none 0 0] 28)) := below_via hA2 (below_new _ _)
    have hD3 : ∀ X Y Z : Obj, Below w1.heap.size w1 (((w1.alloc X).alloc Y).alloc Z).drew := fun X Y Z => below_drewN (below_via (below_via (below_new _ _) (below_new _ _)) (below_new _ _)) 1
    refine wp_region_held_drew (S := (fun W : World => W.cell? ⟨g, 0, none⟩ = some (.slice a1 f1.length c1) ∧ W.cell? ⟨g, 1, none⟩ = some (.slice a2 f2.length c2) ∧ W.cell? ⟨g, 2, none⟩ = some (.slice a3 f3.length c3))) (by kernel_rfl) hS0 (fun hHeld => ?_)
    refine wpAnyH_take (i := 0) (v := ?_) rfl (by kernel_rfl) (by kernel_rfl) (by kernel_rfl) (fun _ _ _ h => h) (Or.inl ⟨by rfl, ?_⟩) hHeld ?_
    rotate_left
    · intro W hW
      obtain ⟨z1, z2, z3⟩ := hW
      first | (go_simp; done) | (go_simp; with_reducible rfl)
    try simp only [List.getElem_toArray, List.getElem_cons_succ, List.getElem_cons_zero, Act.put, List.setIfInBounds_toArray, List.set_cons_zero, List.set_cons_succ]
    refine wpAnyH_take (i := 1) (v := ?_) rfl (by kernel_rfl) (by kernel_rfl) (by kernel_rfl) (fun _ _ _ h => h) (Or.inl ⟨by rfl, ?_⟩) hHeld ?_
    rotate_left
    · intro W hW
      obtain ⟨z1, z2, z3⟩ := hW
      first | (go_simp; done) | (go_simp; with_reducible rfl)
    try simp only [List.getElem_toArray, List.getElem_cons_succ, List.getElem_cons_zero, Act.put, List.setIfInBounds_toArray, List.set_cons_zero, List.set_cons_succ]
    refine wpAnyH_take (i := 2) (v := ?_) rfl (by kernel_rfl) (by kernel_rfl) (by kernel_rfl) (fun _ _ _ h => h) (Or.inl ⟨by rfl, ?_⟩) hHeld ?_
    rotate_left
    · intro W hW
      obtain ⟨z1, z2, z3⟩ := hW
      first | (go_simp; done) | (go_simp; with_reducible rfl)
    try simp only [List.getElem_toArray, List.getElem_cons_succ, List.getElem_cons_zero, Act.put, List.setIfInBounds_toArray, List.set_cons_zero, List.set_cons_succ]
    refine wpAnyH_take (i := 3) (v := ?_) rfl (by kernel_rfl) (by kernel_rfl) (by kernel_rfl) (fun _ _ _ h => h) (Or.inl ⟨by rfl, ?_⟩) hHeld ?_
    rotate_left
    · intro W hW
      obtain ⟨z1, z2, z3⟩ := hW
      first | (go_simp; done) | (go_simp; with_reducible rfl)
    try simp only [List.getElem_toArray, List.getElem_cons_succ, List.getElem_cons_zero, Act.put, List.setIfInBounds_toArray, List.set_cons_zero, List.set_cons_succ]
    refine wpAnyH_take (i := 4) (v := ?_) rfl (by kernel_rfl) (by kernel_rfl) (by kernel_rfl) (fun _ _ _ h => h) (Or.inl ⟨by rfl, ?_⟩) hHeld ?_
    rotate_left
    · intro W hW
      obtain ⟨z1, z2, z3⟩ := hW
      first | (go_simp; done) | (go_simp; with_reducible rfl)
    try simp only [List.getElem_toArray, List.getElem_cons_succ, List.getElem_cons_zero, Act.put, List.setIfInBounds_toArray, List.set_cons_zero, List.set_cons_succ]
    refine wpAnyH_take (i := 5) (v := ?_) rfl (by kernel_rfl) (by kernel_rfl) (by kernel_rfl) (fun _ _ _ h => h) (Or.inl ⟨by rfl, ?_⟩) hHeld ?_
    rotate_left
    · intro W hW
      obtain ⟨z1, z2, z3⟩ := hW
      first | (go_simp; done) | (go_simp; with_reducible rfl)
    try simp only [List.getElem_toArray, List.getElem_cons_succ, List.getElem_cons_zero, Act.put, List.setIfInBounds_toArray, List.set_cons_zero, List.set_cons_succ]
    refine wpAnyH_take (i := 6) (v := ?_) rfl (by kernel_rfl) (by kernel_rfl) (by kernel_rfl) (fun _ _ _ h => h) (Or.inl ⟨by rfl, ?_⟩) hHeld ?_
    rotate_left
    · intro W hW
      obtain ⟨z1, z2, z3⟩ := hW
      first | (go_simp; done) | (go_simp; with_reducible rfl)
    try simp only [List.getElem_toArray, List.getElem_cons_succ, List.getElem_cons_zero, Act.put, List.setIfInBounds_toArray, List.set_cons_zero, List.set_cons_succ]
    refine wpAnyH_take (i := 7) (v := ?_) rfl (by kernel_rfl) (by kernel_rfl) (by kernel_rfl) (fun _ _ _ h => h) (Or.inl ⟨by rfl, ?_⟩) hHeld ?_
    rotate_left
    · intro W hW
      obtain ⟨z1, z2, z3⟩ := hW
      first | (go_simp; done) | (go_simp; with_reducible rfl)
    try simp only [List.getElem_toArray, List.getElem_cons_succ, List.getElem_cons_zero, Act.put, List.setIfInBounds_toArray, List.set_cons_zero, List.set_cons_succ]
    refine wpAnyH_take (i := 8) (v := ?_) rfl (by kernel_rfl) (by kernel_rfl) (by kernel_rfl) (fun _ _ _ h => h) (Or.inl ⟨by rfl, ?_⟩) hHeld ?_
    rotate_left
    · intro W hW
      obtain ⟨z1, z2, z3⟩ := hW
      first | (go_simp; done) | (go_simp; with_reducible rfl)
    try simp only [List.getElem_toArray, List.getElem_cons_succ, List.getElem_cons_zero, Act.put, List.setIfInBounds_toArray, List.set_cons_zero, List.set_cons_succ]
    refine wpAnyH_ready (rs := [9, 10, 11]) (by kernel_rfl) (by simp) ?_
    refine (AllReadyH.cons rfl (fun K hK => ?_) (AllReadyH.cons rfl (fun K hK => ?_) (AllReadyH.cons rfl (fun K hK => ?_) AllReadyH.nil)))
    · skip
      go_simp
      refine hK.out _ _ (HSW.out _ hA1) (fun hH1 => ?_)
      clear hK K
      try simp only [List.getElem_toArray, List.getElem_cons_succ, List.getElem_cons_zero, Act.put, List.setIfInBounds_toArray, List.set_cons_zero, List.set_cons_succ]
      refine wpAnyH_ready (rs := [10, 11]) (by kernel_rfl) (by simp) ?_
      refine (AllReadyH.cons rfl (fun K hK => ?_) (AllReadyH.cons rfl (fun K hK => ?_) AllReadyH.nil))
      · skip
        go_simp
        refine hK.out _ _ (HSW.out _ hA2) (fun hH2 => ?_)
        clear hK K
        try simp only [List.getElem_toArray, List.getElem_cons_succ, List.getElem_cons_zero, Act.put, List.setIfInBounds_toArray, List.set_cons_zero, List.set_cons_succ]
        refine wpAnyH_ready (rs := [11]) (by kernel_rfl) (by simp) ?_
        refine (AllReadyH.cons rfl (fun K hK => ?_) AllReadyH.nil)
        go_simp
        refine hK.out _ _ (HSW.out _ hA3) (fun hH3 => ?_)
        clear hK K
        try simp only [List.getElem_toArray, List.getElem_cons_succ, List.getElem_cons_zero, Act.put, List.setIfInBounds_toArray, List.set_cons_zero, List.set_cons_succ]
        refine wpAnyH_ready (rs := [12]) (by kernel_rfl) (by simp) ?_
        refine AllReadyH.cons rfl (fun K hK => ?_) AllReadyH.nil
        go_simp
        refine hK.out _ _ (HSW.out _ (hD3 _ _ _)) (fun hHs0 => ?_)
        clear hK K
        try simp only [List.getElem_toArray, List.getElem_cons_succ, List.getElem_cons_zero, Act.put, List.setIfInBounds_toArray, List.set_cons_zero, List.set_cons_succ]
        refine wpAnyH_ready (rs := [13]) (by kernel_rfl) (by simp) ?_
        refine AllReadyH.cons rfl (fun K hK => ?_) AllReadyH.nil
        go_simp
        refine hK.out _ _ (HSW.out _ (hD3 _ _ _)) (fun hHs1 => ?_)
        clear hK K
        try simp only [List.getElem_toArray, List.getElem_cons_succ, List.getElem_cons_zero, Act.put, List.setIfInBounds_toArray, List.set_cons_zero, List.set_cons_succ]
        refine wpAnyH_ready (rs := [14]) (by kernel_rfl) (by simp) ?_
        refine AllReadyH.cons rfl (fun K hK => ?_) AllReadyH.nil
        go_simp
        refine hK.out _ _ (HSW.out _ (hD3 _ _ _)) (fun hHs2 => ?_)
        clear hK K
        try simp only [List.getElem_toArray, List.getElem_cons_succ, List.getElem_cons_zero, Act.put, List.setIfInBounds_toArray, List.set_cons_zero, List.set_cons_succ]
        refine wpAnyH_done (by kernel_rfl) ?_ _
        obtain ⟨hx1, hx2, hx3, hx4⟩ := three_boxes Q1.out Q2.out Q3.out 28
        have HX := Lib.hid (And.intro (hx1.step (below_drewN (Below.refl _ _) 1)) (And.intro (hx2.step (below_drewN (Below.refl _ _) 1)) (And.intro (hx3.step (below_drewN (Below.refl _ _) 1)) (below_via hx4 (below_drewN (Below.refl _ _) 1)))))
        clear hx1 hx2 hx3 hx4
        go_wp2_with fail
        go_meet
        exact ⟨_, _, _, rfl, rfl, rfl, HX.out.1, HX.out.2.1, HX.out.2.2.1, HX.out.2.2.2⟩
      · skip
        go_simp
        refine hK.out _ _ (HSW.out _ hA2) (fun hH2 => ?_)
        clear hK K
        try simp only [List.getElem_toArray, List.getElem_cons_succ, List.getElem_cons_zero, Act.put, List.setIfInBounds_toArray, List.set_cons_zero, List.set_cons_succ]
        refine wpAnyH_ready (rs := [10]) (by kernel_rfl) (by simp) ?_
        refine (AllReadyH.cons rfl (fun K hK => ?_) AllReadyH.nil)
        go_simp
        refine hK.out _ _ (HSW.out _ hA3) (fun hH3 => ?_)
        clear hK K
        try simp only [List.getElem_toArray, List.getElem_cons_succ, List.getElem_cons_zero, Act.put, List.setIfInBounds_toArray, List.set_cons_zero, List.set_cons_succ]
        refine wpAnyH_ready (rs := [12]) (by kernel_rfl) (by simp) ?_
        refine AllReadyH.cons rfl (fun K hK => ?_) AllReadyH.nil
        go_simp
        refine hK.out _ _ (HSW.out _ (hD3 _ _ _)) (fun hHs0 => ?_)
        clear hK K
        try simp only [List.getElem_toArray, List.getElem_cons_succ, List.getElem_cons_zero, Act.put, List.setIfInBounds_toArray, List.set_cons_zero, List.set_cons_succ]
        refine wpAnyH_ready (rs := [13]) (by kernel_rfl) (by simp) ?_
        refine AllReadyH.cons rfl (fun K hK => ?_) AllReadyH.nil
        go_simp
        refine hK.out _ _ (HSW.out _ (hD3 _ _ _)) (fun hHs1 => ?_)
        clear hK K
        try simp only [List.getElem_toArray, List.getElem_cons_succ, List.getElem_cons_zero, Act.put, List.setIfInBounds_toArray, List.set_cons_zero, List.set_cons_succ]
        refine wpAnyH_ready (rs := [14]) (by kernel_rfl) (by simp) ?_
        refine AllReadyH.cons rfl (fun K hK => ?_) AllReadyH.nil
        go_simp
        refine hK.out _ _ (HSW.out _ (hD3 _ _ _)) (fun hHs2 => ?_)
        clear hK K
        try simp only [List.getElem_toArray, List.getElem_cons_succ, List.getElem_cons_zero, Act.put, List.setIfInBounds_toArray, List.set_cons_zero, List.set_cons_succ]
        refine wpAnyH_done (by kernel_rfl) ?_ _
        obtain ⟨hx1, hx3, hx2, hx4⟩ := three_boxes Q1.out Q3.out Q2.out 28
        have HX := Lib.hid (And.intro (hx1.step (below_drewN (Below.refl _ _) 1)) (And.intro (hx2.step (below_drewN (Below.refl _ _) 1)) (And.intro (hx3.step (below_drewN (Below.refl _ _) 1)) (below_via hx4 (below_drewN (Below.refl _ _) 1)))))
        clear hx1 hx2 hx3 hx4
        go_wp2_with fail
        go_meet
        exact ⟨_, _, _, rfl, rfl, rfl, HX.out.1, HX.out.2.1, HX.out.2.2.1, HX.out.2.2.2⟩
    · skip
      go_simp
      refine hK.out _ _ (HSW.out _ hA1) (fun hH1 => ?_)
      clear hK K
      try simp only [List.getElem_toArray, List.getElem_cons_succ, List.getElem_cons_zero, Act.put, List.setIfInBounds_toArray, List.set_cons_zero, List.set_cons_succ]
      refine wpAnyH_ready (rs := [9, 11]) (by kernel_rfl) (by simp) ?_
      refine (AllReadyH.cons rfl (fun K hK => ?_) (AllReadyH.cons rfl (fun K hK => ?_) AllReadyH.nil))
      · skip
        go_simp
        refine hK.out _ _ (HSW.out _ hA2) (fun hH2 => ?_)
        clear hK K
        try simp only [List.getElem_toArray, List.getElem_cons_succ, List.getElem_cons_zero, Act.put, List.setIfInBounds_toArray, List.set_cons_zero, List.set_cons_succ]
        refine wpAnyH_ready (rs := [11]) (by kernel_rfl) (by simp) ?_
        refine (AllReadyH.cons rfl (fun K hK => ?_) AllReadyH.nil)
        go_simp
        refine hK.out _ _ (HSW.out _ hA3) (fun hH3 => ?_)
        clear hK K
        try simp only [List.getElem_toArray, List.getElem_cons_succ, List.getElem_cons_zero, Act.put, List.setIfInBounds_toArray, List.set_cons_zero, List.set_cons_succ]
        refine wpAnyH_ready (rs := [12]) (by kernel_rfl) (by simp) ?_
        refine AllReadyH.cons rfl (fun K hK => ?_) AllReadyH.nil
        go_simp
        refine hK.out _ _ (HSW.out _ (hD3 _ _ _)) (fun hHs0 => ?_)
        clear hK K
        try simp only [List.getElem_toArray, List.getElem_cons_succ, List.getElem_cons_zero, Act.put, List.setIfInBounds_toArray, List.set_cons_zero, List.set_cons_succ]
        refine wpAnyH_ready (rs := [13]) (by kernel_rfl) (by simp) ?_
        refine AllReadyH.cons rfl (fun K hK => ?_) AllReadyH.nil
        go_simp
        refine hK.out _ _ (HSW.out _ (hD3 _ _ _)) (fun hHs1 => ?_)
        clear hK K
        try simp only [List.getElem_toArray, List.getElem_cons_succ, List.getElem_cons_zero, Act.put, List.setIfInBounds_toArray, List.set_cons_zero, List.set_cons_succ]
        refine wpAnyH_ready (rs := [14]) (by kernel_rfl) (by simp) ?_
        refine AllReadyH.cons rfl (fun K hK => ?_) AllReadyH.nil
        go_simp
        refine hK.out _ _ (HSW.out _ (hD3 _ _ _)) (fun hHs2 => ?_)
        clear hK K
        try simp only [List.getElem_toArray, List.getElem_cons_succ, List.getElem_cons_zero, Act.put, List.setIfInBounds_toArray, List.set_cons_zero, List.set_cons_succ]
        refine wpAnyH_done (by kernel_rfl) ?_ _
        obtain ⟨hx2, hx1, hx3, hx4⟩ := three_boxes Q2.out Q1.out Q3.out 28
        have HX := Lib.hid (And.intro (hx1.step (below_drewN (Below.refl _ _) 1)) (And.intro (hx2.step (below_drewN (Below.refl _ _) 1)) (And.intro (hx3.step (below_drewN (Below.refl _ _) 1)) (below_via hx4 (below_drewN (Below.refl _ _) 1)))))
        clear hx1 hx2 hx3 hx4
        go_wp2_with fail
        go_meet
        exact ⟨_, _, _, rfl, rfl, rfl, HX.out.1, HX.out.2.1, HX.out.2.2.1, HX.out.2.2.2⟩
      · skip
        go_simp
        refine hK.out _ _ (HSW.out _ hA2) (fun hH2 => ?_)
        clear hK K
        try simp only [List.getElem_toArray, List.getElem_cons_succ, List.getElem_cons_zero, Act.put, List.setIfInBounds_toArray, List.set_cons_zero, List.set_cons_succ]
        refine wpAnyH_ready (rs := [9]) (by kernel_rfl) (by simp) ?_
        refine (AllReadyH.cons rfl (fun K hK => ?_) AllReadyH.nil)
        go_simp
        refine hK.out _ _ (HSW.out _ hA3) (fun hH3 => ?_)
        clear hK K
        try simp only [List.getElem_toArray, List.getElem_cons_succ, List.getElem_cons_zero, Act.put, List.setIfInBounds_toArray, List.set_cons_zero, List.set_cons_succ]
        refine wpAnyH_ready (rs := [12]) (by kernel_rfl) (by simp) ?_
        refine AllReadyH.cons rfl (fun K hK => ?_) AllReadyH.nil
        go_simp
        refine hK.out _ _ (HSW.out _ (hD3 _ _ _)) (fun hHs0 => ?_)
        clear hK K
        try simp only [List.getElem_toArray, List.getElem_cons_succ, List.getElem_cons_zero, Act.put, List.setIfInBounds_toArray, List.set_cons_zero, List.set_cons_succ]
        refine wpAnyH_ready (rs := [13]) (by kernel_rfl) (by simp) ?_
        refine AllReadyH.cons rfl (fun K hK => ?_) AllReadyH.nil
        go_simp
        refine hK.out _ _ (HSW.out _ (hD3 _ _ _)) (fun hHs1 => ?_)
        clear hK K
        try simp only [List.getElem_toArray, List.getElem_cons_succ, List.getElem_cons_zero, Act.put, List.setIfInBounds_toArray, List.set_cons_zero, List.set_cons_succ]
        refine wpAnyH_ready (rs := [14]) (by kernel_rfl) (by simp) ?_
        refine AllReadyH.cons rfl (fun K hK => ?_) AllReadyH.nil
        go_simp
        refine hK.out _ _ (HSW.out _ (hD3 _ _ _)) (fun hHs2 => ?_)
        clear hK K
        try simp only [List.getElem_toArray, List.getElem_cons_succ, List.getElem_cons_zero, Act.put, List.setIfInBounds_toArray, List.set_cons_zero, List.set_cons_succ]
        refine wpAnyH_done (by kernel_rfl) ?_ _
        obtain ⟨hx2, hx3, hx1, hx4⟩ := three_boxes Q2.out Q3.out Q1.out 28
        have HX := Lib.hid (And.intro (hx1.step (below_drewN (Below.refl _ _) 1)) (And.intro (hx2.step (below_drewN (Below.refl _ _) 1)) (And.intro (hx3.step (below_drewN (Below.refl _ _) 1)) (below_via hx4 (below_drewN (Below.refl _ _) 1)))))
        clear hx1 hx2 hx3 hx4
        go_wp2_with fail
        go_meet
        exact ⟨_, _, _, rfl, rfl, rfl, HX.out.1, HX.out.2.1, HX.out.2.2.1, HX.out.2.2.2⟩
    · skip
      go_simp
      refine hK.out _ _ (HSW.out _ hA1) (fun hH1 => ?_)
      clear hK K
      try simp only [List.getElem_toArray, List.getElem_cons_succ, List.getElem_cons_zero, Act.put, List.setIfInBounds_toArray, List.set_cons_zero, List.set_cons_succ]
      refine wpAnyH_ready (rs := [9, 10]) (by kernel_rfl) (by simp) ?_
      refine (AllReadyH.cons rfl (fun K hK => ?_) (AllReadyH.cons rfl (fun K hK => ?_) AllReadyH.nil))
      · skip
        go_simp
        refine hK.out _ _ (HSW.out _ hA2) (fun hH2 => ?_)
        clear hK K
        try simp only [List.getElem_toArray, List.getElem_cons_succ, List.getElem_cons_zero, Act.put, List.setIfInBounds_toArray, List.set_cons_zero, List.set_cons_succ]
        refine wpAnyH_ready (rs := [10]) (by kernel_rfl) (by simp) ?_
        refine (AllReadyH.cons rfl (fun K hK => ?_) AllReadyH.nil)
        go_simp
        refine hK.out _ _ (HSW.out _ hA3) (fun hH3 => ?_)
        clear hK K
        try simp only [List.getElem_toArray, List.getElem_cons_succ, List.getElem_cons_zero, Act.put, List.setIfInBounds_toArray, List.set_cons_zero, List.set_cons_succ]
        refine wpAnyH_ready (rs := [12]) (by kernel_rfl) (by simp) ?_
        refine AllReadyH.cons rfl (fun K hK => ?_) AllReadyH.nil
        go_simp
        refine hK.out _ _ (HSW.out _ (hD3 _ _ _)) (fun hHs0 => ?_)
        clear hK K
        try simp only [List.getElem_toArray, List.getElem_cons_succ, List.getElem_cons_zero, Act.put, List.setIfInBounds_toArray, List.set_cons_zero, List.set_cons_succ]
        refine wpAnyH_ready (rs := [13]) (by kernel_rfl) (by simp) ?_
        refine AllReadyH.cons rfl (fun K hK => ?_) AllReadyH.nil
        go_simp
        refine hK.out _ _ (HSW.out _ (hD3 _ _ _)) (fun hHs1 => ?_)
        clear hK K
        try simp only [List.getElem_toArray, List.getElem_cons_succ, List.getElem_cons_zero, Act.put, List.setIfInBounds_toArray, List.set_cons_zero, List.set_cons_succ]
        refine wpAnyH_ready (rs := [14]) (by kernel_rfl) (by simp) ?_
        refine AllReadyH.cons rfl (fun K hK => ?_) AllReadyH.nil
        go_simp
        refine hK.out _ _ (HSW.out _ (hD3 _ _ _)) (fun hHs2 => ?_)
        clear hK K
        try simp only [List.getElem_toArray, List.getElem_cons_succ, List.getElem_cons_zero, Act.put, List.setIfInBounds_toArray, List.set_cons_zero, List.set_cons_succ]
        refine wpAnyH_done (by kernel_rfl) ?_ _
        obtain ⟨hx3, hx1, hx2, hx4⟩ := three_boxes Q3.out Q1.out Q2.out 28
        have HX := Lib.hid (And.intro (hx1.step (below_drewN (Below.refl _ _) 1)) (And.intro (hx2.step (below_drewN (Below.refl _ _) 1)) (And.intro (hx3.step (below_drewN (Below.refl _ _) 1)) (below_via hx4 (below_drewN (Below.refl _ _) 1)))))
        clear hx1 hx2 hx3 hx4
        go_wp2_with fail
        go_meet
        exact ⟨_, _, _, rfl, rfl, rfl, HX.out.1, HX.out.2.1, HX.out.2.2.1, HX.out.2.2.2⟩
      · skip
        go_simp
        refine hK.out _ _ (HSW.out _ hA2) (fun hH2 => ?_)
        clear hK K
        try simp only [List.getElem_toArray, List.getElem_cons_succ, List.getElem_cons_zero, Act.put, List.setIfInBounds_toArray, List.set_cons_zero, List.set_cons_succ]
        refine wpAnyH_ready (rs := [9]) (by kernel_rfl) (by simp) ?_
        refine (AllReadyH.cons rfl (fun K hK => ?_) AllReadyH.nil)
        go_simp
        refine hK.out _ _ (HSW.out _ hA3) (fun hH3 => ?_)
        clear hK K
        try simp only [List.getElem_toArray, List.getElem_cons_succ, List.getElem_cons_zero, Act.put, List.setIfInBounds_toArray, List.set_cons_zero, List.set_cons_succ]
        refine wpAnyH_ready (rs := [12]) (by kernel_rfl) (by simp) ?_
        refine AllReadyH.cons rfl (fun K hK => ?_) AllReadyH.nil
        go_simp
        refine hK.out _ _ (HSW.out _ (hD3 _ _ _)) (fun hHs0 => ?_)
        clear hK K
        try simp only [List.getElem_toArray, List.getElem_cons_succ, List.getElem_cons_zero, Act.put, List.setIfInBounds_toArray, List.set_cons_zero, List.set_cons_succ]
        refine wpAnyH_ready (rs := [13]) (by kernel_rfl) (by simp) ?_
        refine AllReadyH.cons rfl (fun K hK => ?_) AllReadyH.nil
        go_simp
        refine hK.out _ _ (HSW.out _ (hD3 _ _ _)) (fun hHs1 => ?_)
        clear hK K
        try simp only [List.getElem_toArray, List.getElem_cons_succ, List.getElem_cons_zero, Act.put, List.setIfInBounds_toArray, List.set_cons_zero, List.set_cons_succ]
        refine wpAnyH_ready (rs := [14]) (by kernel_rfl) (by simp) ?_
        refine AllReadyH.cons rfl (fun K hK => ?_) AllReadyH.nil
        go_simp
        refine hK.out _ _ (HSW.out _ (hD3 _ _ _)) (fun hHs2 => ?_)
        clear hK K
        try simp only [List.getElem_toArray, List.getElem_cons_succ, List.getElem_cons_zero, Act.put, List.setIfInBounds_toArray, List.set_cons_zero, List.set_cons_succ]
        refine wpAnyH_done (by kernel_rfl) ?_ _
        obtain ⟨hx3, hx2, hx1, hx4⟩ := three_boxes Q3.out Q2.out Q1.out 28
        have HX := Lib.hid (And.intro (hx1.step (below_drewN (Below.refl _ _) 1)) (And.intro (hx2.step (below_drewN (Below.refl _ _) 1)) (And.intro (hx3.step (below_drewN (Below.refl _ _) 1)) (below_via hx4 (below_drewN (Below.refl _ _) 1)))))
        clear hx1 hx2 hx3 hx4
        go_wp2_with fail
        go_meet
        exact ⟨_, _, _, rfl, rfl, rfl, HX.out.1, HX.out.2.1, HX.out.2.2.1, HX.out.2.2.2⟩
  case rest =>
    obtain ⟨dp, dq, dr, rfl, rfl, rfl, hx1, hx2, hx3, hbx⟩ := hcut
    replace HB := Lib.hid (below_via HB.out hbx)
    have X1 := Lib.hid hx1
    have X2 := Lib.hid hx2
    have X3 := Lib.hid hx3
    clear hx1 hx2 hx3 hbx Q1 Q2 Q3 t1 t2 t3 hgl
    obtain ⟨ab, hab⟩ : ∃ x, sumV f1 f2 = x := ⟨_, rfl⟩
    obtain ⟨o1, ho1⟩ : ∃ x, sumOk f1 f2 = x := ⟨_, rfl⟩
    obtain ⟨bc, hbc⟩ : ∃ x, sumV f2 f3 = x := ⟨_, rfl⟩
    obtain ⟨o2, ho2⟩ : ∃ x, sumOk f2 f3 = x := ⟨_, rfl⟩
    obtain ⟨x, hx⟩ : ∃ x, sumV ab f3 = x := ⟨_, rfl⟩
    obtain ⟨o3, ho3⟩ : ∃ x, sumOk ab f3 = x := ⟨_, rfl⟩
    obtain ⟨y, hy⟩ : ∃ x, sumV f1 bc = x := ⟨_, rfl⟩
    obtain ⟨o4, ho4⟩ : ∃ x, sumOk f1 bc = x := ⟨_, rfl⟩
    obtain ⟨z, hz⟩ : ∃ x, soV [f1, f2, f3] = x := ⟨_, rfl⟩
    obtain ⟨o5, ho5⟩ : ∃ x, soOk [f1, f2, f3] = x := ⟨_, rfl⟩
    have HM : Hid (o1 = true → o2 = true → o3 = true → o4 = true → x = y ∧ o5 = true ∧ z = x) := Lib.hid (fun e1 e2 e3 e4 => by
      subst e1 e2 e3 e4
      rw [← hab] at ho3 hx
      rw [← hbc] at ho4 hy
      have h1 := sum_assoc ho1 ho2 ho3 ho4
      have h2 := many_three (sum_good ho1).2.2.1 ho1 ho3
      exact ⟨by rw [← hx, ← hy]; exact h1, by rw [← ho5]; exact h2.1, by rw [← hz, ← hx]; exact h2.2⟩)
    have Hab := Lib.hid hab
    have Hbc := Lib.hid hbc
    have Hx := Lib.hid hx
    have Hy := Lib.hid hy
    have Hz := Lib.hid hz
    have Ho1 := Lib.hid ho1
    have Ho2 := Lib.hid ho2
    have Ho3 := Lib.hid ho3
    have Ho4 := Lib.hid ho4
    have Ho5 := Lib.hid ho5
    clear hab hbc hx hy hz ho1 ho2 ho3 ho4 ho5
    obtain ⟨kX1, loX1, hiX1, hhX1, nX1⟩ := X1.out
    obtain ⟨kX2, loX2, hiX2, hhX2, nX2⟩ := X2.out
    have C := Lib.hid (sumI_calls _ _ f1 f2 ab o1 Ho1 Hab wc loX1 hiX1 loX2 hiX2 hhX1 hhX2 nX1 nX2)
    clear hhX1 nX1 hhX2 nX2
    go_wp2_with fail
    refine C.out.mono ?_
    rintro e wa1 ⟨a4, c4, vs4, rfl, ho, hb⟩
    have hst := below_via hb (below_new wa1 (.cells #[.slice a4 ab.length c4] 28))
    replace HB := Lib.hid (below_via HB.out hst)
    replace X1 := Lib.hid (X1.out.step hst)
    replace X2 := Lib.hid (X2.out.step hst)
    replace X3 := Lib.hid (X3.out.step hst)
    have X4 := Lib.hid (BoxF.new (copyOf_nodes ho.nodesZ) 28)
    clear ho hb hst C 
    clear kX1
    clear kX2
    go_upto_region 8 with fail
    generalize (wa1.alloc (.cells #[.slice a4 ab.length c4] 28)) = wm1 at HB X1 X2 X3 X4 ⊢
    generalize wa1.heap.size = DX4 at X4 ⊢
    obtain ⟨kX2, loX2, hiX2, hhX2, nX2⟩ := X2.out
    obtain ⟨kX3, loX3, hiX3, hhX3, nX3⟩ := X3.out
    have C := Lib.hid (sumI_calls _ _ f2 f3 bc o2 Ho2 Hbc wm1 loX2 hiX2 loX3 hiX3 hhX2 hhX3 nX2 nX3)
    clear hhX2 nX2 hhX3 nX3
    go_wp2_with fail
    refine C.out.mono ?_
    rintro e wa2 ⟨a5, c5, vs5, rfl, ho, hb⟩
    have hst := below_via hb (below_new wa2 (.cells #[.slice a5 bc.length c5] 28))
    replace HB := Lib.hid (below_via HB.out hst)
    replace X1 := Lib.hid (X1.out.step hst)
    replace X2 := Lib.hid (X2.out.step hst)
    replace X3 := Lib.hid (X3.out.step hst)
    replace X4 := Lib.hid (X4.out.step hst)
    have X5 := Lib.hid (BoxF.new (copyOf_nodes ho.nodesZ) 28)
    clear ho hb hst C 
    clear kX2
    clear kX3
    go_upto_region 9 with fail
    generalize (wa2.alloc (.cells #[.slice a5 bc.length c5] 28)) = wm2 at HB X1 X2 X3 X4 X5 ⊢
    generalize wa2.heap.size = DX5 at X5 ⊢
    obtain ⟨kX4, loX4, hiX4, hhX4, nX4⟩ := X4.out
    obtain ⟨kX3, loX3, hiX3, hhX3, nX3⟩ := X3.out
    have C := Lib.hid (sumI_calls _ _ ab f3 x o3 Ho3 Hx wm2 loX4 hiX4 loX3 hiX3 hhX4 hhX3 nX4 nX3)
    clear hhX4 nX4 hhX3 nX3
    go_wp2_with fail
    refine C.out.mono ?_
    rintro e wa3 ⟨a6, c6, vs6, rfl, ho, hb⟩
    have hst := below_via hb (below_new wa3 (.cells #[.slice a6 x.length c6] 28))
    replace HB := Lib.hid (below_via HB.out hst)
    replace X1 := Lib.hid (X1.out.step hst)
    replace X2 := Lib.hid (X2.out.step hst)
    replace X3 := Lib.hid (X3.out.step hst)
    replace X4 := Lib.hid (X4.out.step hst)
    replace X5 := Lib.hid (X5.out.step hst)
    have X6 := Lib.hid (BoxF.new (copyOf_nodes ho.nodesZ) 28)
    clear ho hb hst C 
    clear kX4
    clear kX3
    go_upto_region 10 with fail
    generalize (wa3.alloc (.cells #[.slice a6 x.length c6] 28)) = wm3 at HB X1 X2 X3 X4 X5 X6 ⊢
    generalize wa3.heap.size = DX6 at X6 ⊢
    obtain ⟨kX1, loX1, hiX1, hhX1, nX1⟩ := X1.out
    obtain ⟨kX5, loX5, hiX5, hhX5, nX5⟩ := X5.out
    have C := Lib.hid (sumI_calls _ _ f1 bc y o4 Ho4 Hy wm3 loX1 hiX1 loX5 hiX5 hhX1 hhX5 nX1 nX5)
    clear hhX1 nX1 hhX5 nX5
    go_wp2_with fail
    refine C.out.mono ?_
    rintro e wa4 ⟨a7, c7, vs7, rfl, ho, hb⟩
    have hst := below_via hb (below_new wa4 (.cells #[.slice a7 y.length c7] 28))
    replace HB := Lib.hid (below_via HB.out hst)
    replace X1 := Lib.hid (X1.out.step hst)
    replace X2 := Lib.hid (X2.out.step hst)
    replace X3 := Lib.hid (X3.out.step hst)
    replace X4 := Lib.hid (X4.out.step hst)
    replace X5 := Lib.hid (X5.out.step hst)
    replace X6 := Lib.hid (X6.out.step hst)
    have X7 := Lib.hid (BoxF.new (copyOf_nodes ho.nodesZ) 28)
    clear ho hb hst C 
    clear kX1
    clear kX5
    go_upto_region 11 with fail
    generalize (wa4.alloc (.cells #[.slice a7 y.length c7] 28)) = wm4 at HB X1 X2 X3 X4 X5 X6 X7 ⊢
    generalize wa4.heap.size = DX7 at X7 ⊢
    obtain ⟨kX1, loX1, hiX1, hhX1, nX1⟩ := X1.out
    obtain ⟨kX2, loX2, hiX2, hhX2, nX2⟩ := X2.out
    obtain ⟨kX3, loX3, hiX3, hhX3, nX3⟩ := X3.out
    have C := Lib.hid (sum3I_calls ⟨_, _, hhX1, nX1⟩ ⟨_, _, hhX2, nX2⟩ ⟨_, _, hhX3, nX3⟩ 28 z o5 Ho5 Hz)
    clear hhX1 nX1 hhX2 nX2 hhX3 nX3
    go_wp2_with fail
    refine C.out.mono ?_
    rintro e wa5 ⟨a8, c8, rfl, ho, hb⟩
    have hst := below_via hb (below_new wa5 (.cells #[.slice a8 z.length c8] 28))
    replace HB := Lib.hid (below_via HB.out hst)
    replace X1 := Lib.hid (X1.out.step hst)
    replace X2 := Lib.hid (X2.out.step hst)
    replace X3 := Lib.hid (X3.out.step hst)
    replace X4 := Lib.hid (X4.out.step hst)
    replace X5 := Lib.hid (X5.out.step hst)
    replace X6 := Lib.hid (X6.out.step hst)
    replace X7 := Lib.hid (X7.out.step hst)
    have X8 := Lib.hid (BoxF.new (copyOf_nodes ho) 28)
    clear ho hb hst C 
    clear kX1
    clear kX2
    clear kX3
    go_upto_region 12 with fail
    generalize (wa5.alloc (.cells #[.slice a8 z.length c8] 28)) = wm5 at HB X1 X2 X3 X4 X5 X6 X7 X8 ⊢
    generalize wa5.heap.size = DX8 at X8 ⊢
    obtain ⟨kX1, loX1, hiX1, hhX1, nX1⟩ := X1.out
    obtain ⟨kX2, loX2, hiX2, hhX2, nX2⟩ := X2.out
    obtain ⟨kX3, loX3, hiX3, hhX3, nX3⟩ := X3.out
    have C := Lib.hid (sum3S_calls ⟨_, _, hhX1, nX1⟩ ⟨_, _, hhX2, nX2⟩ ⟨_, _, hhX3, nX3⟩ 28 z o5 Ho5 Hz)
    clear hhX1 nX1 hhX2 nX2 hhX3 nX3
    go_wp2_with fail
    refine C.out.mono ?_
    rintro e wa6 ⟨a9, c9, rfl, ho, hb⟩
    have hst := below_via hb (below_new wa6 (.cells #[.slice a9 z.length c9] 28))
    replace HB := Lib.hid (below_via HB.out hst)
    replace X1 := Lib.hid (X1.out.step hst)
    replace X2 := Lib.hid (X2.out.step hst)
    replace X3 := Lib.hid (X3.out.step hst)
    replace X4 := Lib.hid (X4.out.step hst)
    replace X5 := Lib.hid (X5.out.step hst)
    replace X6 := Lib.hid (X6.out.step hst)
    replace X7 := Lib.hid (X7.out.step hst)
    replace X8 := Lib.hid (X8.out.step hst)
    have X9 := Lib.hid (BoxF.new (copyOf_nodes ho) 28)
    clear ho hb hst C 
    clear kX1
    clear kX2
    clear kX3
    go_upto_region 13 with fail
    generalize (wa6.alloc (.cells #[.slice a9 z.length c9] 28)) = wm6 at HB X1 X2 X3 X4 X5 X6 X7 X8 X9 ⊢
    generalize wa6.heap.size = DX9 at X9 ⊢
    have e5 : (o5 != o5) = false := by simp
    have C := Lib.hid (vSame_box X8.out.2 X9.out.2)
    have kX8 := X8.out.1
    have kX9 := X9.out.1
    go_wp2_with fail
    refine C.out.mono ?_
    rintro e wa7 ⟨rfl, hb⟩
    replace HB := Lib.hid (below_via HB.out hb)
    replace X1 := Lib.hid (X1.out.step hb)
    replace X2 := Lib.hid (X2.out.step hb)
    replace X3 := Lib.hid (X3.out.step hb)
    replace X4 := Lib.hid (X4.out.step hb)
    replace X5 := Lib.hid (X5.out.step hb)
    replace X6 := Lib.hid (X6.out.step hb)
    replace X7 := Lib.hid (X7.out.step hb)
    replace X8 := Lib.hid (X8.out.step hb)
    replace X9 := Lib.hid (X9.out.step hb)
    clear hb C kX8 kX9
    clear e5 Hab Hbc Hx Hy Hz Ho1 Ho2 Ho3 Ho4 Ho5
    cases o1 with
    | false =>
      go_wp2_with fail
      go_ret
      exact ⟨rfl, HB.out⟩
    | true =>
      cases o2 with
      | false =>
        go_wp2_with fail
        go_ret
        exact ⟨rfl, HB.out⟩
      | true =>
        cases o3 with
        | false =>
          go_wp2_with fail
          go_ret
          exact ⟨rfl, HB.out⟩
        | true =>
          cases o4 with
          | false =>
            go_wp2_with fail
            go_ret
            exact ⟨rfl, HB.out⟩
          | true =>
            obtain ⟨rfl, rfl, rfl⟩ := HM.out rfl rfl rfl rfl
            have C := Lib.hid (vSame_box X6.out.2 X7.out.2)
            have kX6 := X6.out.1
            have kX7 := X7.out.1
            go_wp2_with fail
            refine C.out.mono ?_
            rintro e wa8 ⟨rfl, hb⟩
            replace HB := Lib.hid (below_via HB.out hb)
            replace X1 := Lib.hid (X1.out.step hb)
            replace X2 := Lib.hid (X2.out.step hb)
            replace X3 := Lib.hid (X3.out.step hb)
            replace X4 := Lib.hid (X4.out.step hb)
            replace X5 := Lib.hid (X5.out.step hb)
            replace X6 := Lib.hid (X6.out.step hb)
            replace X7 := Lib.hid (X7.out.step hb)
            replace X8 := Lib.hid (X8.out.step hb)
            replace X9 := Lib.hid (X9.out.step hb)
            clear hb C kX6 kX7
            have C := Lib.hid (vSame_box X8.out.2 X6.out.2)
            have kX8 := X8.out.1
            have kX6 := X6.out.1
            go_wp2_with fail
            refine C.out.mono ?_
            rintro e wa9 ⟨rfl, hb⟩
            replace HB := Lib.hid (below_via HB.out hb)
            replace X1 := Lib.hid (X1.out.step hb)
            replace X2 := Lib.hid (X2.out.step hb)
            replace X3 := Lib.hid (X3.out.step hb)
            replace X4 := Lib.hid (X4.out.step hb)
            replace X5 := Lib.hid (X5.out.step hb)
            replace X6 := Lib.hid (X6.out.step hb)
            replace X7 := Lib.hid (X7.out.step hb)
            replace X8 := Lib.hid (X8.out.step hb)
            replace X9 := Lib.hid (X9.out.step hb)
            clear hb C kX8 kX6
            go_wp2_with fail
            go_ret
            exact ⟨rfl, HB.out⟩

end Go.Proofs.Ytabfdaofikccmaa
