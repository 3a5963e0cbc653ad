/- The walk of laws.FnBetween. -/
import Derived.Test.YtlblkmhiildgeaaDoorDyVals3
import Derived.Test.YtlblkmhiildgeaaDoorDyDrawB
import Derived.Test.YtlblkmhiildgeaaDoorVCut
import Derived.Deep.DeepCutAuto
namespace Go.Proofs.YtlblkmhiildgeaaDoor
open Go.RowKit
set_option linter.unusedVariables false

set_option maxRecDepth 100000 in
set_option maxHeartbeats 8000000 in
theorem fnBetween_walk (ao : Option Addr) (n c : Nat) (w : World) (hc : CodeIn w (.slice ao n c) n) (hT : DeBr w)
    (hv : n ≤ 65536 → ∀ W, Below w.heap.size w W → Calls Tryd.prog 23 #[.slice ao n c, .int .i64 1] W fun e w' => (∃ g n' c', e = .returned (.slice (some ⟨g, 0, none⟩) n' c') ∧ n' ≤ 65537 ∧ CodeIn w' (.slice (some ⟨g, 0, none⟩) n' c') n') ∧ Below W.heap.size W w') :
    Calls Tryd.prog 4 #[.slice ao n c] w fun e w' => e = .returned (.bool true) ∧ Below w.heap.size w w' := by
  by_cases hbig : 65536 < n
  · have hv : decide (65536 < n) = true := decide_eq_true hbig
    go_enter Tryd.func4, Tryd.ntmps4
    go_wp2_with fail
    refine (vBig_calls ao n c w).mono ?_
    rintro e w1 ⟨rfl, rfl⟩
    rw [hv]
    go_wp2_with fail
    go_ret
    exact ⟨rfl, Below.refl _ _⟩
  · have HV := fun W hb => Lib.hid (hv (by omega) W hb)
    clear hv
    have hv : decide (65536 < n) = false := decide_eq_false hbig
    have HD := Lib.hid (drawBtw_calls ao n c w hc (by omega))
    have HBI : ∀ (ta pa tb pb : Int) (W : World), Below w.heap.size w W → Hid (Calls Tryd.prog 20 #[.agg #[.int .i64 ta, .int .i64 pa], .agg #[.int .i64 tb, .int .i64 pb]] W fun e w' => e = .returned (.tuple #[.agg #[.int .i64 (btwV ta pa tb pb).1, .int .i64 (btwV ta pa tb pb).2.1], .bool (btwV ta pa tb pb).2.2]) ∧ Below W.heap.size W w') := fun ta pa tb pb W hb => Lib.hid (btwI_all ta pa tb pb W (hT.below hb))
    clear hc hT
    go_enter Tryd.func4, Tryd.ntmps4
    go_wp2_with fail
    refine (vBig_calls ao n c w).mono ?_
    rintro e w1 ⟨rfl, rfl⟩
    rw [hv]
    go_wp2_with fail
    refine HD.out.mono ?_
    rintro e w1 ⟨⟨ta, pa, tb, pb, rfl⟩, hb1⟩
    have hbi := HBI ta pa tb pb
    have hbs := fun W => Lib.hid (btwS_every ta pa tb pb W)
    have f0 := Lib.hid (btw_bad ta pa tb pb)
    have f1 := Lib.hid (btw_facts ta pa tb pb)
    clear HBI HD
    generalize btwV ta pa tb pb = r at hbi hbs f0 f1
    obtain ⟨x, y, ok⟩ := r
    simp only at hbi hbs f0 f1
    have hK0 : Keeps w1 [] := fun z hz => by cases hz
    have hK := keeps_alloc (.int .i64 tb) (.int .i64 pb) 25 (keeps_alloc (.int .i64 ta) (.int .i64 pa) 25 hK0)
    have hB := below_alloc (o := .cells #[.int .i64 tb, .int .i64 pb] 25) (below_alloc (o := .cells #[.int .i64 ta, .int .i64 pa] 25) hb1)
    clear hK0 hb1
    go_upto_region 4 with fail
    rw [show (w1.alloc (.cells #[.int .i64 ta, .int .i64 pa] 25)).heap.size = w1.heap.size + 1 by simp] at hK
    generalize (w1.alloc (.cells #[.int .i64 ta, .int .i64 pa] 25)).alloc (.cells #[.int .i64 tb, .int .i64 pb] 25) = W1 at hK hB ⊢
    generalize w1.heap.size = a at hK ⊢
    have hL := hK
    simp only [Keeps, List.forall_mem_cons] at hL
    obtain ⟨⟨b0, b1⟩, ⟨a0, a1⟩, _⟩ := hL
    go_wp2_with fail
    refine (hbi _ hB).out.mono ?_
    rintro e w2 ⟨rfl, hb⟩
    clear b0 b1 a0 a1
    replace hK := keeps_alloc (.int .i64 x) (.int .i64 y) 25 (keeps_next hb hK)
    replace hB := below_alloc (o := .cells #[.int .i64 x, .int .i64 y] 25) (below_on hB hb)
    clear hb
    go_upto_region 5 with fail
    generalize w2.alloc (.cells #[.int .i64 x, .int .i64 y] 25) = W2 at hK hB ⊢
    generalize w2.heap.size = g5 at hK ⊢
    have hL := hK
    simp only [Keeps, List.forall_mem_cons] at hL
    obtain ⟨⟨g50, g51⟩, ⟨b0, b1⟩, ⟨a0, a1⟩, _⟩ := hL
    go_wp2_with fail
    refine (hbs _).out.mono ?_
    rintro e w3 ⟨rfl, hb⟩
    clear g50 g51 b0 b1 a0 a1
    replace hK := keeps_alloc (.int .i64 x) (.int .i64 y) 25 (keeps_next hb hK)
    replace hB := below_alloc (o := .cells #[.int .i64 x, .int .i64 y] 25) (below_on hB hb)
    clear hb
    go_upto_region 6 with fail
    generalize w3.alloc (.cells #[.int .i64 x, .int .i64 y] 25) = W3 at hK hB ⊢
    generalize w3.heap.size = g7 at hK ⊢
    cases ok
    · obtain ⟨rfl, rfl⟩ := f0.out rfl
      have hL := hK
      simp only [Keeps, List.forall_mem_cons] at hL
      obtain ⟨⟨g70, g71⟩, ⟨g50, g51⟩, ⟨b0, b1⟩, ⟨a0, a1⟩, _⟩ := hL
      have HB := Lib.hid hB
      clear hB
      go_wp2_with fail
      go_ret
      exact ⟨rfl, HB.out⟩
    · obtain ⟨F1, F2, F3⟩ := f1.out rfl
      have hk1 := fun W => Lib.hid (cmpI_all ta pa x y W)
      have hk2 := fun W => Lib.hid (cmpI_all x y tb pb W)
      rw [F1] at hk1
      rw [F2] at hk2
      have F3h := Lib.hid F3
      clear F1 F2 F3 f0 f1
      have hbx := fun W => Lib.hid (bornI_all x y W)
      generalize (cmpV ta pa x y).2 = o1 at hk1
      generalize (cmpV x y tb pb).2 = o2 at hk2
      have hL := hK
      simp only [Keeps, List.forall_mem_cons] at hL
      obtain ⟨⟨g70, g71⟩, ⟨g50, g51⟩, ⟨b0, b1⟩, ⟨a0, a1⟩, _⟩ := hL
      go_wp2_with fail
      refine (hk1 _).out.mono ?_
      rintro e w4 ⟨rfl, hb⟩
      clear g70 g71 g50 g51 b0 b1 a0 a1
      replace hK := keeps_next hb hK
      replace hB := below_on hB hb
      clear hb
      have hL := hK
      simp only [Keeps, List.forall_mem_cons] at hL
      obtain ⟨⟨g70, g71⟩, ⟨g50, g51⟩, ⟨b0, b1⟩, ⟨a0, a1⟩, _⟩ := hL
      go_wp2_with fail
      refine (hk2 _).out.mono ?_
      rintro e w5 ⟨rfl, hb⟩
      clear g70 g71 g50 g51 b0 b1 a0 a1
      replace hK := keeps_next hb hK
      replace hB := below_on hB hb
      clear hb
      have hL := hK
      simp only [Keeps, List.forall_mem_cons] at hL
      obtain ⟨⟨g70, g71⟩, ⟨g50, g51⟩, ⟨b0, b1⟩, ⟨a0, a1⟩, _⟩ := hL
      go_wp2_with fail
      refine (HV _ hB).out.mono ?_
      rintro e w6 ⟨⟨gv, nv, cv, rfl, hnv, hcv⟩, hb⟩
      clear g70 g71 g50 g51 b0 b1 a0 a1
      replace hK := keeps_next hb hK
      replace hB := below_on hB hb
      clear hb
      have hdr := Lib.hid (drawGood_calls _ _ _ _ hcv (by omega))
      clear hcv hnv
      have hL := hK
      simp only [Keeps, List.forall_mem_cons] at hL
      obtain ⟨⟨g70, g71⟩, ⟨g50, g51⟩, ⟨b0, b1⟩, ⟨a0, a1⟩, _⟩ := hL
      go_wp2_with fail
      refine (hdr).out.mono ?_
      rintro e w7 ⟨⟨u, q, _, rfl⟩, hb⟩
      clear g70 g71 g50 g51 b0 b1 a0 a1
      replace hK := keeps_alloc (.int .i64 u) (.int .i64 q) 25 (keeps_next hb hK)
      replace hB := below_alloc (o := .cells #[.int .i64 u, .int .i64 q] 25) (below_on hB hb)
      clear hb
      go_upto_region 13 with fail
      generalize w7.alloc (.cells #[.int .i64 u, .int .i64 q] 25) = W7 at hK hB ⊢
      generalize w7.heap.size = gy at hK ⊢
      have hk3 := fun W => Lib.hid (cmpI_all ta pa u q W)
      have hk4 := fun W => Lib.hid (cmpI_all u q tb pb W)
      have hby := fun W => Lib.hid (bornI_all u q W)
      have FF := Lib.hid (F3h.out u q)
      clear F3h hdr
      generalize cmpV ta pa u q = k3 at hk3 FF
      generalize cmpV u q tb pb = k4 at hk4 FF
      generalize bornV x y = bx at hbx FF
      generalize bornV u q = bq at hby FF
      obtain ⟨c3, t3⟩ := k3
      obtain ⟨c4, t4⟩ := k4
      obtain ⟨bx, bxo⟩ := bx
      obtain ⟨bq, bqo⟩ := bq
      simp only at hk3 hk4 hbx hby FF
      have hL := hK
      simp only [Keeps, List.forall_mem_cons] at hL
      obtain ⟨⟨gy0, gy1⟩, ⟨g70, g71⟩, ⟨g50, g51⟩, ⟨b0, b1⟩, ⟨a0, a1⟩, _⟩ := hL
      go_wp2_with fail
      refine (hk3 _).out.mono ?_
      rintro e w8 ⟨rfl, hb⟩
      clear gy0 gy1 g70 g71 g50 g51 b0 b1 a0 a1
      replace hK := keeps_next hb hK
      replace hB := below_on hB hb
      clear hb
      have hL := hK
      simp only [Keeps, List.forall_mem_cons] at hL
      obtain ⟨⟨gy0, gy1⟩, ⟨g70, g71⟩, ⟨g50, g51⟩, ⟨b0, b1⟩, ⟨a0, a1⟩, _⟩ := hL
      go_wp2_with fail
      refine (hk4 _).out.mono ?_
      rintro e w9 ⟨rfl, hb⟩
      clear gy0 gy1 g70 g71 g50 g51 b0 b1 a0 a1
      replace hK := keeps_next hb hK
      replace hB := below_on hB hb
      clear hb
      have hL := hK
      simp only [Keeps, List.forall_mem_cons] at hL
      obtain ⟨⟨gy0, gy1⟩, ⟨g70, g71⟩, ⟨g50, g51⟩, ⟨b0, b1⟩, ⟨a0, a1⟩, _⟩ := hL
      go_wp2_with fail
      refine (hbx _).out.mono ?_
      rintro e w10 ⟨rfl, hb⟩
      clear gy0 gy1 g70 g71 g50 g51 b0 b1 a0 a1
      replace hK := keeps_next hb hK
      replace hB := below_on hB hb
      clear hb
      have hL := hK
      simp only [Keeps, List.forall_mem_cons] at hL
      obtain ⟨⟨gy0, gy1⟩, ⟨g70, g71⟩, ⟨g50, g51⟩, ⟨b0, b1⟩, ⟨a0, a1⟩, _⟩ := hL
      go_wp2_with fail
      refine (hby _).out.mono ?_
      rintro e w11 ⟨rfl, hb⟩
      clear gy0 gy1 g70 g71 g50 g51 b0 b1 a0 a1
      replace hK := keeps_next hb hK
      replace hB := below_on hB hb
      clear hb
      have hL := hK
      simp only [Keeps, List.forall_mem_cons] at hL
      obtain ⟨⟨gy0, gy1⟩, ⟨g70, g71⟩, ⟨g50, g51⟩, ⟨b0, b1⟩, ⟨a0, a1⟩, _⟩ := hL
      have HB := Lib.hid hB
      clear hB
      cases t3
      · go_wp2_with fail
        go_ret
        exact ⟨rfl, HB.out⟩
      · by_cases e3 : c3 = -1
        · subst e3
          by_cases e4 : c4 = -1
          · subst e4
            by_cases eu : u = x
            · subst eu
              by_cases eq : q = y
              · subst eq
                go_wp2_with fail
                go_ret
                exact ⟨rfl, HB.out⟩
              · have hlt : bx < bq := (FF.out rfl rfl rfl).resolve_left (fun h => eq h.2)
                go_wp2_with fail
                go_ret
                exact ⟨rfl, HB.out⟩
            · have hlt : bx < bq := (FF.out rfl rfl rfl).resolve_left (fun h => eu h.1)
              go_wp2_with fail
              go_ret
              exact ⟨rfl, HB.out⟩
          · go_wp2_with fail
            go_ret
            exact ⟨rfl, HB.out⟩
        · go_wp2_with fail
          go_ret
          exact ⟨rfl, HB.out⟩

end Go.Proofs.YtlblkmhiildgeaaDoor
