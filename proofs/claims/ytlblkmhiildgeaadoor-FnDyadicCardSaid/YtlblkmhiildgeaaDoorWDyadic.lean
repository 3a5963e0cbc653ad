/- The walk of laws.FnDyadic. -/
import Derived.Test.YtlblkmhiildgeaaDoorDyVals
import Derived.Test.YtlblkmhiildgeaaDoorDyDrawn
import Derived.Deep.DeepCutAuto
namespace Go.Proofs.YtlblkmhiildgeaaDoor
open Go.RowKit
set_option linter.unusedVariables false

set_option maxRecDepth 100000 in
set_option maxHeartbeats 8000000 in
theorem fnDyadic_walk (ao : Option Addr) (n c : Nat) (w : World) (hc : CodeIn w (.slice ao n c) n) (hT : DeBr w) :
    Calls Tryd.prog 3 #[.slice ao n c] w fun e w' => e = .returned (.bool true) ∧ Below w.heap.size w w' := by
  by_cases hbig : 65536 < n
  · have hv : decide (65536 < n) = true := decide_eq_true hbig
    go_enter Tryd.func3, Tryd.ntmps3
    go_wp2_with fail
    refine (vBig_calls ao n c w).mono ?_
    rintro e w1 ⟨rfl, rfl⟩
    rw [hv]
    go_wp2_with fail
    go_ret
    exact ⟨rfl, Below.refl _ _⟩
  · have hv : decide (65536 < n) = false := decide_eq_false hbig
    have HD := Lib.hid (drawAdd_calls ao n c w hc (by omega))
    have HAI : ∀ (ta pa tb pb : Int) (W : World), Below w.heap.size w W → Hid (Calls Tryd.prog 13 #[.agg #[.int .i64 ta, .int .i64 pa], .agg #[.int .i64 tb, .int .i64 pb]] W fun e w' => e = .returned (.tuple #[.agg #[.int .i64 (addV ta pa tb pb).1, .int .i64 (addV ta pa tb pb).2.1], .bool (addV ta pa tb pb).2.2]) ∧ Below W.heap.size W w') := fun ta pa tb pb W hb => Lib.hid (addI_all ta pa tb pb W (hT.below hb))
    have HHI : ∀ (t p : Int) (W : World), Below w.heap.size w W → Hid (Calls Tryd.prog 17 #[.agg #[.int .i64 t, .int .i64 p]] W fun e w' => e = .returned (.tuple #[.agg #[.int .i64 (halfV t p).1, .int .i64 (halfV t p).2.1], .bool (halfV t p).2.2]) ∧ Below W.heap.size W w') := fun t p W hb => Lib.hid (halfI_all t p W (hT.below hb))
    clear hc hT
    go_enter Tryd.func3, Tryd.ntmps3
    go_wp2_with fail
    refine (vBig_calls ao n c w).mono ?_
    rintro e w1 ⟨rfl, rfl⟩
    rw [hv]
    go_wp2_with fail
    refine HD.out.mono ?_
    rintro e w1 ⟨⟨ta, pa, tb, pb, rfl⟩, hb1⟩
    have ha1 := HAI ta pa tb pb
    have ha2 := HAI tb pb ta pa
    rw [addV_comm ta pa tb pb] at ha2
    have ha3 := HAI (halfV ta pa).1 (halfV ta pa).2.1 (halfV ta pa).1 (halfV ta pa).2.1
    have ha4 := HAI ta pa (negV ta pa).1 (negV ta pa).2.1
    have hs := fun W => Lib.hid (addS_all ta pa tb pb W)
    have hk1 := fun W => Lib.hid (cmpI_all ta pa tb pb W)
    have hk2 := fun W => Lib.hid (cmpI_all tb pb ta pa W)
    have hks := fun W => Lib.hid (cmpS_all ta pa tb pb W)
    have hh := HHI ta pa
    have hn := fun W => Lib.hid (negI_all ta pa W)
    have f1 := Lib.hid (half_twice ta pa)
    have f2 := Lib.hid (neg_zero ta pa)
    have f3 := Lib.hid (cmp_facts ta pa tb pb)
    clear HAI HHI HD
    generalize addV ta pa tb pb = r at ha1 ha2 hs
    generalize addV (halfV ta pa).1 (halfV ta pa).2.1 (halfV ta pa).1 (halfV ta pa).2.1 = r3 at ha3 f1
    generalize addV ta pa (negV ta pa).1 (negV ta pa).2.1 = r4 at ha4 f2
    generalize halfV ta pa = h at ha3 hh f1
    generalize negV ta pa = m at ha4 hn f2
    generalize cmpV ta pa tb pb = k1 at hk1 hks f3
    generalize cmpV tb pb ta pa = k2 at hk2 f3
    obtain ⟨x, y, ok⟩ := r
    obtain ⟨x3, y3, ok3⟩ := r3
    obtain ⟨x4, y4, ok4⟩ := r4
    obtain ⟨xh, yh, okh⟩ := h
    obtain ⟨xm, ym, okm⟩ := m
    obtain ⟨c1, told⟩ := k1
    obtain ⟨c2, told2⟩ := k2
    simp only at ha1 ha2 ha3 ha4 hs hk1 hk2 hks hh hn f1 f2 f3
    have hK0 : Keeps w1 [] := fun z hz => by cases hz
    have hK := keeps_alloc (.int .i64 tb) (.int .i64 pb) 25 (keeps_alloc (.int .i64 ta) (.int .i64 pa) 25 hK0)
    have hB := below_alloc (o := .cells #[.int .i64 tb, .int .i64 pb] 25) (below_alloc (o := .cells #[.int .i64 ta, .int .i64 pa] 25) hb1)
    clear hK0 hb1
    go_upto_region 4 with fail
    rw [show (w1.alloc (.cells #[.int .i64 ta, .int .i64 pa] 25)).heap.size = w1.heap.size + 1 by simp] at hK
    generalize (w1.alloc (.cells #[.int .i64 ta, .int .i64 pa] 25)).alloc (.cells #[.int .i64 tb, .int .i64 pb] 25) = W1 at hK hB ⊢
    generalize w1.heap.size = a at hK ⊢
    have hL := hK
    simp only [Keeps, List.forall_mem_cons] at hL
    obtain ⟨⟨b0, b1⟩, ⟨a0, a1⟩, _⟩ := hL
    go_wp2_with fail
    refine (ha1 _ hB).out.mono ?_
    rintro e w2 ⟨rfl, hb⟩
    clear b0 b1 a0 a1
    replace hK := keeps_alloc (.int .i64 x) (.int .i64 y) 25 (keeps_next hb hK)
    replace hB := below_alloc (o := .cells #[.int .i64 x, .int .i64 y] 25) (below_on hB hb)
    clear hb
    go_upto_region 5 with fail
    generalize w2.alloc (.cells #[.int .i64 x, .int .i64 y] 25) = W2 at hK hB ⊢
    generalize w2.heap.size = g5 at hK ⊢
    have hL := hK
    simp only [Keeps, List.forall_mem_cons] at hL
    obtain ⟨⟨g50, g51⟩, ⟨b0, b1⟩, ⟨a0, a1⟩, _⟩ := hL
    go_wp2_with fail
    refine (ha2 _ hB).out.mono ?_
    rintro e w3 ⟨rfl, hb⟩
    clear g50 g51 b0 b1 a0 a1
    replace hK := keeps_alloc (.int .i64 x) (.int .i64 y) 25 (keeps_next hb hK)
    replace hB := below_alloc (o := .cells #[.int .i64 x, .int .i64 y] 25) (below_on hB hb)
    clear hb
    go_upto_region 6 with fail
    generalize w3.alloc (.cells #[.int .i64 x, .int .i64 y] 25) = W3 at hK hB ⊢
    generalize w3.heap.size = g7 at hK ⊢
    have hL := hK
    simp only [Keeps, List.forall_mem_cons] at hL
    obtain ⟨⟨g70, g71⟩, ⟨g50, g51⟩, ⟨b0, b1⟩, ⟨a0, a1⟩, _⟩ := hL
    go_wp2_with fail
    refine (hs _).out.mono ?_
    rintro e w4 ⟨rfl, hb⟩
    clear g70 g71 g50 g51 b0 b1 a0 a1
    replace hK := keeps_alloc (.int .i64 x) (.int .i64 y) 25 (keeps_next hb hK)
    replace hB := below_alloc (o := .cells #[.int .i64 x, .int .i64 y] 25) (below_on hB hb)
    clear hb
    go_upto_region 7 with fail
    generalize w4.alloc (.cells #[.int .i64 x, .int .i64 y] 25) = W4 at hK hB ⊢
    generalize w4.heap.size = g9 at hK ⊢
    have hL := hK
    simp only [Keeps, List.forall_mem_cons] at hL
    obtain ⟨⟨g90, g91⟩, ⟨g70, g71⟩, ⟨g50, g51⟩, ⟨b0, b1⟩, ⟨a0, a1⟩, _⟩ := hL
    go_wp2_with fail
    refine (hk1 _).out.mono ?_
    rintro e w5 ⟨rfl, hb⟩
    clear g90 g91 g70 g71 g50 g51 b0 b1 a0 a1
    replace hK := keeps_next hb hK
    replace hB := below_on hB hb
    clear hb
    have hL := hK
    simp only [Keeps, List.forall_mem_cons] at hL
    obtain ⟨⟨g90, g91⟩, ⟨g70, g71⟩, ⟨g50, g51⟩, ⟨b0, b1⟩, ⟨a0, a1⟩, _⟩ := hL
    go_wp2_with fail
    refine (hks _).out.mono ?_
    rintro e w6 ⟨rfl, hb⟩
    clear g90 g91 g70 g71 g50 g51 b0 b1 a0 a1
    replace hK := keeps_next hb hK
    replace hB := below_on hB hb
    clear hb
    have hL := hK
    simp only [Keeps, List.forall_mem_cons] at hL
    obtain ⟨⟨g90, g91⟩, ⟨g70, g71⟩, ⟨g50, g51⟩, ⟨b0, b1⟩, ⟨a0, a1⟩, _⟩ := hL
    go_wp2_with fail
    refine (hh _ hB).out.mono ?_
    rintro e w7 ⟨rfl, hb⟩
    clear g90 g91 g70 g71 g50 g51 b0 b1 a0 a1
    replace hK := keeps_alloc (.int .i64 xh) (.int .i64 yh) 25 (keeps_next hb hK)
    replace hB := below_alloc (o := .cells #[.int .i64 xh, .int .i64 yh] 25) (below_on hB hb)
    clear hb
    go_upto_region 12 with fail
    generalize w7.alloc (.cells #[.int .i64 xh, .int .i64 yh] 25) = W7 at hK hB ⊢
    generalize w7.heap.size = gh at hK ⊢
    cases okh
    · skip
      have hL := hK
      simp only [Keeps, List.forall_mem_cons] at hL
      obtain ⟨⟨gh0, gh1⟩, ⟨g90, g91⟩, ⟨g70, g71⟩, ⟨g50, g51⟩, ⟨b0, b1⟩, ⟨a0, a1⟩, _⟩ := hL
      go_wp2_with fail
      refine (hn _).out.mono ?_
      rintro e w8 ⟨rfl, hb⟩
      clear gh0 gh1 g90 g91 g70 g71 g50 g51 b0 b1 a0 a1
      replace hK := keeps_alloc (.int .i64 xm) (.int .i64 ym) 25 (keeps_next hb hK)
      replace hB := below_alloc (o := .cells #[.int .i64 xm, .int .i64 ym] 25) (below_on hB hb)
      clear hb
      go_upto_region 17 with fail
      generalize w8.alloc (.cells #[.int .i64 xm, .int .i64 ym] 25) = W8 at hK hB ⊢
      generalize w8.heap.size = gn at hK ⊢
      cases okm
      · skip
        have hL := hK
        simp only [Keeps, List.forall_mem_cons] at hL
        obtain ⟨⟨gn0, gn1⟩, ⟨gh0, gh1⟩, ⟨g90, g91⟩, ⟨g70, g71⟩, ⟨g50, g51⟩, ⟨b0, b1⟩, ⟨a0, a1⟩, _⟩ := hL
        go_wp2_with fail
        refine (hk2 _).out.mono ?_
        rintro e w9 ⟨rfl, hb⟩
        clear gn0 gn1 gh0 gh1 g90 g91 g70 g71 g50 g51 b0 b1 a0 a1
        replace hK := keeps_next hb hK
        have HB := Lib.hid (below_on hB hb)
        clear hb hB
        have hL := hK
        simp only [Keeps, List.forall_mem_cons] at hL
        obtain ⟨⟨gn0, gn1⟩, ⟨gh0, gh1⟩, ⟨g90, g91⟩, ⟨g70, g71⟩, ⟨g50, g51⟩, ⟨b0, b1⟩, ⟨a0, a1⟩, _⟩ := hL
        have F3 := f3
        cases told
        · go_wp2_with fail
          go_ret
          exact ⟨rfl, HB.out⟩
        · obtain ⟨⟨d1, d2⟩, d3⟩ := F3.out
          obtain ⟨rfl, d4⟩ := d3 rfl
          clear d3 F3 f3
          by_cases e1 : ta = tb
          · subst e1
            by_cases e2 : pa = pb
            · subst e2
              obtain rfl : c2 = 0 := by have := d4.2 ⟨rfl, rfl⟩; omega
              clear d4
              go_wp2_with fail
              go_ret
              exact ⟨rfl, HB.out⟩
            · have hz : c2 ≠ 0 := fun h => e2 (d4.1 (by omega)).2
              obtain rfl | rfl : c2 = -1 ∨ c2 = 1 := by omega
              all_goals
                clear d4
                go_wp2_with fail
                go_ret
                exact ⟨rfl, HB.out⟩
          · have hz : c2 ≠ 0 := fun h => e1 (d4.1 (by omega)).1
            obtain rfl | rfl : c2 = -1 ∨ c2 = 1 := by omega
            all_goals
              clear d4
              go_wp2_with fail
              go_ret
              exact ⟨rfl, HB.out⟩
      · obtain ⟨rfl, rfl⟩ := f2.out rfl
        have hL := hK
        simp only [Keeps, List.forall_mem_cons] at hL
        obtain ⟨⟨gn0, gn1⟩, ⟨gh0, gh1⟩, ⟨g90, g91⟩, ⟨g70, g71⟩, ⟨g50, g51⟩, ⟨b0, b1⟩, ⟨a0, a1⟩, _⟩ := hL
        go_wp2_with fail
        refine (ha4 _ hB).out.mono ?_
        rintro e w10 ⟨rfl, hb⟩
        clear gn0 gn1 gh0 gh1 g90 g91 g70 g71 g50 g51 b0 b1 a0 a1
        replace hK := keeps_alloc (.int .i64 0) (.int .i64 0) 25 (keeps_next hb hK)
        replace hB := below_alloc (o := .cells #[.int .i64 0, .int .i64 0] 25) (below_on hB hb)
        clear hb
        have hL := hK
        simp only [Keeps, List.forall_mem_cons] at hL
        obtain ⟨⟨gz0, gz1⟩, ⟨gn0, gn1⟩, ⟨gh0, gh1⟩, ⟨g90, g91⟩, ⟨g70, g71⟩, ⟨g50, g51⟩, ⟨b0, b1⟩, ⟨a0, a1⟩, _⟩ := hL
        go_wp2_with fail
        refine (hk2 _).out.mono ?_
        rintro e w11 ⟨rfl, hb⟩
        clear gz0 gz1 gn0 gn1 gh0 gh1 g90 g91 g70 g71 g50 g51 b0 b1 a0 a1
        replace hK := keeps_next hb hK
        have HB := Lib.hid (below_on hB hb)
        clear hb hB
        have hL := hK
        simp only [Keeps, List.forall_mem_cons] at hL
        obtain ⟨⟨gz0, gz1⟩, ⟨gn0, gn1⟩, ⟨gh0, gh1⟩, ⟨g90, g91⟩, ⟨g70, g71⟩, ⟨g50, g51⟩, ⟨b0, b1⟩, ⟨a0, a1⟩, _⟩ := hL
        have F3 := f3
        cases told
        · go_wp2_with fail
          go_ret
          exact ⟨rfl, HB.out⟩
        · obtain ⟨⟨d1, d2⟩, d3⟩ := F3.out
          obtain ⟨rfl, d4⟩ := d3 rfl
          clear d3 F3 f3
          by_cases e1 : ta = tb
          · subst e1
            by_cases e2 : pa = pb
            · subst e2
              obtain rfl : c2 = 0 := by have := d4.2 ⟨rfl, rfl⟩; omega
              clear d4
              go_wp2_with fail
              go_ret
              exact ⟨rfl, HB.out⟩
            · have hz : c2 ≠ 0 := fun h => e2 (d4.1 (by omega)).2
              obtain rfl | rfl : c2 = -1 ∨ c2 = 1 := by omega
              all_goals
                clear d4
                go_wp2_with fail
                go_ret
                exact ⟨rfl, HB.out⟩
          · have hz : c2 ≠ 0 := fun h => e1 (d4.1 (by omega)).1
            obtain rfl | rfl : c2 = -1 ∨ c2 = 1 := by omega
            all_goals
              clear d4
              go_wp2_with fail
              go_ret
              exact ⟨rfl, HB.out⟩
    · cases f1.out rfl
      have hL := hK
      simp only [Keeps, List.forall_mem_cons] at hL
      obtain ⟨⟨gh0, gh1⟩, ⟨g90, g91⟩, ⟨g70, g71⟩, ⟨g50, g51⟩, ⟨b0, b1⟩, ⟨a0, a1⟩, _⟩ := hL
      go_wp2_with fail
      refine (ha3 _ hB).out.mono ?_
      rintro e w12 ⟨rfl, hb⟩
      clear gh0 gh1 g90 g91 g70 g71 g50 g51 b0 b1 a0 a1
      replace hK := keeps_alloc (.int .i64 ta) (.int .i64 pa) 25 (keeps_next hb hK)
      replace hB := below_alloc (o := .cells #[.int .i64 ta, .int .i64 pa] 25) (below_on hB hb)
      clear hb
      have hL := hK
      simp only [Keeps, List.forall_mem_cons] at hL
      obtain ⟨⟨gt0, gt1⟩, ⟨gh0, gh1⟩, ⟨g90, g91⟩, ⟨g70, g71⟩, ⟨g50, g51⟩, ⟨b0, b1⟩, ⟨a0, a1⟩, _⟩ := hL
      go_wp2_with fail
      refine (hn _).out.mono ?_
      rintro e w13 ⟨rfl, hb⟩
      clear gt0 gt1 gh0 gh1 g90 g91 g70 g71 g50 g51 b0 b1 a0 a1
      replace hK := keeps_alloc (.int .i64 xm) (.int .i64 ym) 25 (keeps_next hb hK)
      replace hB := below_alloc (o := .cells #[.int .i64 xm, .int .i64 ym] 25) (below_on hB hb)
      clear hb
      go_upto_region 17 with fail
      generalize w13.alloc (.cells #[.int .i64 xm, .int .i64 ym] 25) = W13 at hK hB ⊢
      generalize w13.heap.size = gn at hK ⊢
      cases okm
      · skip
        have hL := hK
        simp only [Keeps, List.forall_mem_cons] at hL
        obtain ⟨⟨gn0, gn1⟩, ⟨gt0, gt1⟩, ⟨gh0, gh1⟩, ⟨g90, g91⟩, ⟨g70, g71⟩, ⟨g50, g51⟩, ⟨b0, b1⟩, ⟨a0, a1⟩, _⟩ := hL
        go_wp2_with fail
        refine (hk2 _).out.mono ?_
        rintro e w14 ⟨rfl, hb⟩
        clear gn0 gn1 gt0 gt1 gh0 gh1 g90 g91 g70 g71 g50 g51 b0 b1 a0 a1
        replace hK := keeps_next hb hK
        have HB := Lib.hid (below_on hB hb)
        clear hb hB
        have hL := hK
        simp only [Keeps, List.forall_mem_cons] at hL
        obtain ⟨⟨gn0, gn1⟩, ⟨gt0, gt1⟩, ⟨gh0, gh1⟩, ⟨g90, g91⟩, ⟨g70, g71⟩, ⟨g50, g51⟩, ⟨b0, b1⟩, ⟨a0, a1⟩, _⟩ := hL
        have F3 := f3
        cases told
        · go_wp2_with fail
          go_ret
          exact ⟨rfl, HB.out⟩
        · obtain ⟨⟨d1, d2⟩, d3⟩ := F3.out
          obtain ⟨rfl, d4⟩ := d3 rfl
          clear d3 F3 f3
          by_cases e1 : ta = tb
          · subst e1
            by_cases e2 : pa = pb
            · subst e2
              obtain rfl : c2 = 0 := by have := d4.2 ⟨rfl, rfl⟩; omega
              clear d4
              go_wp2_with fail
              go_ret
              exact ⟨rfl, HB.out⟩
            · have hz : c2 ≠ 0 := fun h => e2 (d4.1 (by omega)).2
              obtain rfl | rfl : c2 = -1 ∨ c2 = 1 := by omega
              all_goals
                clear d4
                go_wp2_with fail
                go_ret
                exact ⟨rfl, HB.out⟩
          · have hz : c2 ≠ 0 := fun h => e1 (d4.1 (by omega)).1
            obtain rfl | rfl : c2 = -1 ∨ c2 = 1 := by omega
            all_goals
              clear d4
              go_wp2_with fail
              go_ret
              exact ⟨rfl, HB.out⟩
      · obtain ⟨rfl, rfl⟩ := f2.out rfl
        have hL := hK
        simp only [Keeps, List.forall_mem_cons] at hL
        obtain ⟨⟨gn0, gn1⟩, ⟨gt0, gt1⟩, ⟨gh0, gh1⟩, ⟨g90, g91⟩, ⟨g70, g71⟩, ⟨g50, g51⟩, ⟨b0, b1⟩, ⟨a0, a1⟩, _⟩ := hL
        go_wp2_with fail
        refine (ha4 _ hB).out.mono ?_
        rintro e w15 ⟨rfl, hb⟩
        clear gn0 gn1 gt0 gt1 gh0 gh1 g90 g91 g70 g71 g50 g51 b0 b1 a0 a1
        replace hK := keeps_alloc (.int .i64 0) (.int .i64 0) 25 (keeps_next hb hK)
        replace hB := below_alloc (o := .cells #[.int .i64 0, .int .i64 0] 25) (below_on hB hb)
        clear hb
        have hL := hK
        simp only [Keeps, List.forall_mem_cons] at hL
        obtain ⟨⟨gz0, gz1⟩, ⟨gn0, gn1⟩, ⟨gt0, gt1⟩, ⟨gh0, gh1⟩, ⟨g90, g91⟩, ⟨g70, g71⟩, ⟨g50, g51⟩, ⟨b0, b1⟩, ⟨a0, a1⟩, _⟩ := hL
        go_wp2_with fail
        refine (hk2 _).out.mono ?_
        rintro e w16 ⟨rfl, hb⟩
        clear gz0 gz1 gn0 gn1 gt0 gt1 gh0 gh1 g90 g91 g70 g71 g50 g51 b0 b1 a0 a1
        replace hK := keeps_next hb hK
        have HB := Lib.hid (below_on hB hb)
        clear hb hB
        have hL := hK
        simp only [Keeps, List.forall_mem_cons] at hL
        obtain ⟨⟨gz0, gz1⟩, ⟨gn0, gn1⟩, ⟨gt0, gt1⟩, ⟨gh0, gh1⟩, ⟨g90, g91⟩, ⟨g70, g71⟩, ⟨g50, g51⟩, ⟨b0, b1⟩, ⟨a0, a1⟩, _⟩ := hL
        have F3 := f3
        cases told
        · go_wp2_with fail
          go_ret
          exact ⟨rfl, HB.out⟩
        · obtain ⟨⟨d1, d2⟩, d3⟩ := F3.out
          obtain ⟨rfl, d4⟩ := d3 rfl
          clear d3 F3 f3
          by_cases e1 : ta = tb
          · subst e1
            by_cases e2 : pa = pb
            · subst e2
              obtain rfl : c2 = 0 := by have := d4.2 ⟨rfl, rfl⟩; omega
              clear d4
              go_wp2_with fail
              go_ret
              exact ⟨rfl, HB.out⟩
            · have hz : c2 ≠ 0 := fun h => e2 (d4.1 (by omega)).2
              obtain rfl | rfl : c2 = -1 ∨ c2 = 1 := by omega
              all_goals
                clear d4
                go_wp2_with fail
                go_ret
                exact ⟨rfl, HB.out⟩
          · have hz : c2 ≠ 0 := fun h => e1 (d4.1 (by omega)).1
            obtain rfl | rfl : c2 = -1 ∨ c2 = 1 := by omega
            all_goals
              clear d4
              go_wp2_with fail
              go_ret
              exact ⟨rfl, HB.out⟩

end Go.Proofs.YtlblkmhiildgeaaDoor
