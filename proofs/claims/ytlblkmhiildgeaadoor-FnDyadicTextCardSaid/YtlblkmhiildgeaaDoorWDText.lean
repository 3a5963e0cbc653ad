/- The walk of laws.FnDyadicText. -/
import Derived.Test.YtlblkmhiildgeaaDoorDyVals2
import Derived.Test.YtlblkmhiildgeaaDoorDyDrawn
import Derived.Test.YtlblkmhiildgeaaDoorDyDrawR
import Derived.Test.YtlblkmhiildgeaaDoorDyDrawM
import Derived.Deep.DeepCutAuto
namespace Go.Proofs.YtlblkmhiildgeaaDoor
open Go.RowKit
set_option linter.unusedVariables false

theorem var_lt2 {w : World} {g : Nat} {v : Value} (h : w.cell? ⟨g, 0, none⟩ = some v) : g < w.heap.size := by
  rcases Nat.lt_or_ge g w.heap.size with h1 | h1
  · exact h1
  · have h2 : w.heap[g]? = none := Array.getElem?_eq_none h1
    simp [World.cell?, h2] at h

set_option maxRecDepth 100000 in
set_option maxHeartbeats 8000000 in
theorem fnDyadicText_walk (ao : Option Addr) (n c : Nat) (w : World) (m : Int) (hc : CodeIn w (.slice ao n c) n) (hT : DeBr w) (hP : PowIs w) (hE : ErrVars w) (hm : w.cell? ⟨2, 0, none⟩ = some (.int .i64 m)) :
    Calls Tryd.prog 5 #[.slice ao n c] w fun e w' => e = .returned (.bool true) ∧ Below w.heap.size w w' := by
  by_cases hbig : 65536 < n
  · have hv : decide (65536 < n) = true := decide_eq_true hbig
    go_enter Tryd.func5, Tryd.ntmps5
    go_wp2_with fail
    refine (vBig_calls ao n c w).mono ?_
    rintro e w1 ⟨rfl, rfl⟩
    rw [hv]
    go_wp2_with fail
    go_ret
    exact ⟨rfl, Below.refl _ _⟩
  · have hv : decide (65536 < n) = false := decide_eq_false hbig
    have HD := Lib.hid (drawDText_calls ao n c w hc (by omega))
    have HDR : ∀ (W : World), Below w.heap.size w W → Hid (Calls Tryd.prog 28 #[.slice ao n c] W fun e w' => (∃ x : ByteArray, x.size ≤ 1000 ∧ e = .returned (.string x)) ∧ Below W.heap.size W w') := fun W hb => Lib.hid (drawRead_calls ao n c W (hc.below hb) (by omega))
    have HDM : ∀ (W : World), Below w.heap.size w W → Hid (Calls Tryd.prog 31 #[.slice ao n c] W fun e w' => (∃ t p : Int, e = .returned (.tuple #[.int .i64 t, .int .i64 p])) ∧ Below W.heap.size W w') := fun W hb => Lib.hid (drawMake_calls ao n c W (hc.below hb) (by omega))
    have hml := var_lt2 hm
    have HRI : ∀ (s : ByteArray) (r : Int × Int × Bool), s.size ≤ 1000 → ReadsD s.data.toList r → ∀ (W : World), Below w.heap.size w W → Hid (Calls Tryd.prog 29 #[.string s] W fun e w' => e = .returned (.tuple #[.agg #[.int .i64 r.1, .int .i64 r.2.1], .bool r.2.2]) ∧ Below W.heap.size W w') := fun s r h1 h2 W hb => Lib.hid (readI_any s m r W (by omega) h2 (hE.below hb) (hP.below hb) ((hb.cell (p := ⟨2, 0, none⟩) hml).trans hm))
    have HTI : ∀ (t p : Int) (W : World), Below w.heap.size w W → Hid (Calls Tryd.prog 26 #[.agg #[.int .i64 t, .int .i64 p]] W fun e w' => e = .returned (.tuple #[.string (textV t p).1, .bool (textV t p).2]) ∧ Below W.heap.size W w') := fun t p W hb => Lib.hid (dtextI_all t p W (hP.below hb))
    have HMI : ∀ (t p : Int) (W : World), Below w.heap.size w W → Hid (Calls Tryd.prog 32 #[.int .i64 t, .int .i64 p] W fun e w' => e = .returned (.tuple #[.agg #[.int .i64 (makeV t p).1, .int .i64 (makeV t p).2.1], .bool (makeV t p).2.2]) ∧ Below W.heap.size W w') := fun t p W hb => Lib.hid (makeI_all t p W (hT.below hb))
    clear hc hT hP hE hm hml
    go_enter Tryd.func5, Tryd.ntmps5
    go_wp2_with fail
    refine (vBig_calls ao n c w).mono ?_
    rintro e w1 ⟨rfl, rfl⟩
    rw [hv]
    go_wp2_with fail
    refine HD.out.mono ?_
    rintro e w1 ⟨⟨t, p, _, rfl⟩, hb1⟩
    have hti := HTI t p
    have hts := fun W => Lib.hid (dtextS_all t p W)
    obtain ⟨sz, tok, r', hr', er', br'⟩ := text_reads t p
    have hri := HRI (textV t p).1 r' sz hr'
    have hgd := fun W => Lib.hid (goodI_calls t p W)
    obtain ⟨x', y', ok'⟩ := r'
    simp only at hri er' br'
    generalize textV t p = tv at hti hts hri tok
    obtain ⟨s, ok⟩ := tv
    simp only at hti hts hri tok
    generalize goodD t p = b at hgd tok er' br'
    subst tok er'
    have BR := Lib.hid br'
    clear HD HTI sz hr' br'
    have hK0 : Keeps w1 [] := fun z hz => by cases hz
    have hK := keeps_alloc (.int .i64 t) (.int .i64 p) 25 hK0
    have hB := below_alloc (o := .cells #[.int .i64 t, .int .i64 p] 25) hb1
    clear hK0 hb1
    go_upto_region 4 with fail
    generalize w1.alloc (.cells #[.int .i64 t, .int .i64 p] 25) = W1 at hK hB ⊢
    generalize w1.heap.size = d at hK ⊢
    have hL := hK
    simp only [Keeps, List.forall_mem_cons] at hL
    obtain ⟨⟨d0, d1⟩, _⟩ := hL
    go_wp2_with fail
    refine (hti _ hB).out.mono ?_
    rintro e w2 ⟨rfl, hb⟩
    clear d0 d1
    replace hK := keeps_next hb hK
    replace hB := below_on hB hb
    clear hb
    have hL := hK
    simp only [Keeps, List.forall_mem_cons] at hL
    obtain ⟨⟨d0, d1⟩, _⟩ := hL
    go_wp2_with fail
    refine (hts _).out.mono ?_
    rintro e w3 ⟨rfl, hb⟩
    clear d0 d1
    replace hK := keeps_next hb hK
    replace hB := below_on hB hb
    clear hb
    have hL := hK
    simp only [Keeps, List.forall_mem_cons] at hL
    obtain ⟨⟨d0, d1⟩, _⟩ := hL
    go_wp2_with fail
    refine (HDR _ hB).out.mono ?_
    rintro e w4 ⟨⟨z, hz, rfl⟩, hb⟩
    clear d0 d1
    replace hK := keeps_next hb hK
    replace hB := below_on hB hb
    clear hb
    obtain ⟨r, hr⟩ := reads_exists z.data.toList
    have hrz := HRI z r hz hr
    have hrs := fun W => Lib.hid (readS_any z r W (by omega) hr)
    obtain ⟨x, y, rok⟩ := r
    simp only at hrz hrs
    clear HRI hr hz HDR
    have hL := hK
    simp only [Keeps, List.forall_mem_cons] at hL
    obtain ⟨⟨d0, d1⟩, _⟩ := hL
    go_wp2_with fail
    refine (hrz _ hB).out.mono ?_
    rintro e w5 ⟨rfl, hb⟩
    clear d0 d1
    replace hK := keeps_alloc (.int .i64 x) (.int .i64 y) 25 (keeps_next hb hK)
    replace hB := below_alloc (o := .cells #[.int .i64 x, .int .i64 y] 25) (below_on hB hb)
    clear hb
    go_upto_region 8 with fail
    generalize w5.alloc (.cells #[.int .i64 x, .int .i64 y] 25) = W5 at hK hB ⊢
    generalize w5.heap.size = g9 at hK ⊢
    have hL := hK
    simp only [Keeps, List.forall_mem_cons] at hL
    obtain ⟨⟨g90, g91⟩, ⟨d0, d1⟩, _⟩ := hL
    go_wp2_with fail
    refine (hrs _).out.mono ?_
    rintro e w6 ⟨rfl, hb⟩
    clear g90 g91 d0 d1
    replace hK := keeps_alloc (.int .i64 x) (.int .i64 y) 25 (keeps_next hb hK)
    replace hB := below_alloc (o := .cells #[.int .i64 x, .int .i64 y] 25) (below_on hB hb)
    clear hb
    go_upto_region 9 with fail
    generalize w6.alloc (.cells #[.int .i64 x, .int .i64 y] 25) = W6 at hK hB ⊢
    generalize w6.heap.size = gb at hK ⊢
    have hL := hK
    simp only [Keeps, List.forall_mem_cons] at hL
    obtain ⟨⟨gb0, gb1⟩, ⟨g90, g91⟩, ⟨d0, d1⟩, _⟩ := hL
    go_wp2_with fail
    refine (HDM _ hB).out.mono ?_
    rintro e w7 ⟨⟨t2, p2, rfl⟩, hb⟩
    clear gb0 gb1 g90 g91 d0 d1
    replace hK := keeps_next hb hK
    replace hB := below_on hB hb
    clear hb
    have hmi := HMI t2 p2
    have hms := fun W => Lib.hid (makeS_all t2 p2 W)
    obtain ⟨mg, mz⟩ := make_facts t2 p2
    generalize makeV t2 p2 = mv at hmi hms mg mz
    obtain ⟨xm, ym, made⟩ := mv
    simp only at hmi hms mg mz
    have hgm := fun W => Lib.hid (goodI_calls xm ym W)
    rw [mg] at hgm
    have MZ := Lib.hid mz
    clear mg mz HMI HDM
    have hL := hK
    simp only [Keeps, List.forall_mem_cons] at hL
    obtain ⟨⟨gb0, gb1⟩, ⟨g90, g91⟩, ⟨d0, d1⟩, _⟩ := hL
    go_wp2_with fail
    refine (hmi _ hB).out.mono ?_
    rintro e w8 ⟨rfl, hb⟩
    clear gb0 gb1 g90 g91 d0 d1
    replace hK := keeps_alloc (.int .i64 xm) (.int .i64 ym) 25 (keeps_next hb hK)
    replace hB := below_alloc (o := .cells #[.int .i64 xm, .int .i64 ym] 25) (below_on hB hb)
    clear hb
    go_upto_region 11 with fail
    generalize w8.alloc (.cells #[.int .i64 xm, .int .i64 ym] 25) = W8 at hK hB ⊢
    generalize w8.heap.size = gf at hK ⊢
    have hL := hK
    simp only [Keeps, List.forall_mem_cons] at hL
    obtain ⟨⟨gf0, gf1⟩, ⟨gb0, gb1⟩, ⟨g90, g91⟩, ⟨d0, d1⟩, _⟩ := hL
    go_wp2_with fail
    refine (hms _).out.mono ?_
    rintro e w9 ⟨rfl, hb⟩
    clear gf0 gf1 gb0 gb1 g90 g91 d0 d1
    replace hK := keeps_alloc (.int .i64 xm) (.int .i64 ym) 25 (keeps_next hb hK)
    replace hB := below_alloc (o := .cells #[.int .i64 xm, .int .i64 ym] 25) (below_on hB hb)
    clear hb
    go_upto_region 12 with fail
    generalize w9.alloc (.cells #[.int .i64 xm, .int .i64 ym] 25) = W9 at hK hB ⊢
    generalize w9.heap.size = gh at hK ⊢
    have hL := hK
    simp only [Keeps, List.forall_mem_cons] at hL
    obtain ⟨⟨gh0, gh1⟩, ⟨gf0, gf1⟩, ⟨gb0, gb1⟩, ⟨g90, g91⟩, ⟨d0, d1⟩, _⟩ := hL
    go_wp2_with fail
    refine (hri _ hB).out.mono ?_
    rintro e w10 ⟨rfl, hb⟩
    clear gh0 gh1 gf0 gf1 gb0 gb1 g90 g91 d0 d1
    replace hK := keeps_alloc (.int .i64 x') (.int .i64 y') 25 (keeps_next hb hK)
    replace hB := below_alloc (o := .cells #[.int .i64 x', .int .i64 y'] 25) (below_on hB hb)
    clear hb
    go_upto_region 15 with fail
    generalize w10.alloc (.cells #[.int .i64 x', .int .i64 y'] 25) = W10 at hK hB ⊢
    generalize w10.heap.size = gj at hK ⊢
    cases ok'
    · cases made
      · obtain ⟨rfl, rfl⟩ := MZ.out rfl
        have hL := hK
        simp only [Keeps, List.forall_mem_cons] at hL
        obtain ⟨⟨gj0, gj1⟩, ⟨gh0, gh1⟩, ⟨gf0, gf1⟩, ⟨gb0, gb1⟩, ⟨g90, g91⟩, ⟨d0, d1⟩, _⟩ := hL
        go_wp2_with fail
        refine (hgd _).out.mono ?_
        rintro e w11 ⟨rfl, hb⟩
        clear gj0 gj1 gh0 gh1 gf0 gf1 gb0 gb1 g90 g91 d0 d1
        replace hK := keeps_next hb hK
        replace hB := below_on hB hb
        clear hb
        have hL := hK
        simp only [Keeps, List.forall_mem_cons] at hL
        obtain ⟨⟨gj0, gj1⟩, ⟨gh0, gh1⟩, ⟨gf0, gf1⟩, ⟨gb0, gb1⟩, ⟨g90, g91⟩, ⟨d0, d1⟩, _⟩ := hL
        go_wp2_with fail
        refine (hgm _).out.mono ?_
        rintro e w12 ⟨rfl, hb⟩
        clear gj0 gj1 gh0 gh1 gf0 gf1 gb0 gb1 g90 g91 d0 d1
        replace hK := keeps_next hb hK
        replace hB := below_on hB hb
        clear hb
        have hL := hK
        simp only [Keeps, List.forall_mem_cons] at hL
        obtain ⟨⟨gj0, gj1⟩, ⟨gh0, gh1⟩, ⟨gf0, gf1⟩, ⟨gb0, gb1⟩, ⟨g90, g91⟩, ⟨d0, d1⟩, _⟩ := hL
        have HB := Lib.hid hB
        clear hB
        go_wp2_with fail
        go_ret
        exact ⟨rfl, HB.out⟩
      · skip
        have hL := hK
        simp only [Keeps, List.forall_mem_cons] at hL
        obtain ⟨⟨gj0, gj1⟩, ⟨gh0, gh1⟩, ⟨gf0, gf1⟩, ⟨gb0, gb1⟩, ⟨g90, g91⟩, ⟨d0, d1⟩, _⟩ := hL
        go_wp2_with fail
        refine (hgd _).out.mono ?_
        rintro e w13 ⟨rfl, hb⟩
        clear gj0 gj1 gh0 gh1 gf0 gf1 gb0 gb1 g90 g91 d0 d1
        replace hK := keeps_next hb hK
        replace hB := below_on hB hb
        clear hb
        have hL := hK
        simp only [Keeps, List.forall_mem_cons] at hL
        obtain ⟨⟨gj0, gj1⟩, ⟨gh0, gh1⟩, ⟨gf0, gf1⟩, ⟨gb0, gb1⟩, ⟨g90, g91⟩, ⟨d0, d1⟩, _⟩ := hL
        go_wp2_with fail
        refine (hgm _).out.mono ?_
        rintro e w14 ⟨rfl, hb⟩
        clear gj0 gj1 gh0 gh1 gf0 gf1 gb0 gb1 g90 g91 d0 d1
        replace hK := keeps_next hb hK
        replace hB := below_on hB hb
        clear hb
        have hL := hK
        simp only [Keeps, List.forall_mem_cons] at hL
        obtain ⟨⟨gj0, gj1⟩, ⟨gh0, gh1⟩, ⟨gf0, gf1⟩, ⟨gb0, gb1⟩, ⟨g90, g91⟩, ⟨d0, d1⟩, _⟩ := hL
        have HB := Lib.hid hB
        clear hB
        go_wp2_with fail
        go_ret
        exact ⟨rfl, HB.out⟩
    · obtain ⟨rfl, rfl⟩ := BR.out rfl
      cases made
      · obtain ⟨rfl, rfl⟩ := MZ.out rfl
        have hL := hK
        simp only [Keeps, List.forall_mem_cons] at hL
        obtain ⟨⟨gj0, gj1⟩, ⟨gh0, gh1⟩, ⟨gf0, gf1⟩, ⟨gb0, gb1⟩, ⟨g90, g91⟩, ⟨d0, d1⟩, _⟩ := hL
        go_wp2_with fail
        refine (hgd _).out.mono ?_
        rintro e w15 ⟨rfl, hb⟩
        clear gj0 gj1 gh0 gh1 gf0 gf1 gb0 gb1 g90 g91 d0 d1
        replace hK := keeps_next hb hK
        replace hB := below_on hB hb
        clear hb
        have hL := hK
        simp only [Keeps, List.forall_mem_cons] at hL
        obtain ⟨⟨gj0, gj1⟩, ⟨gh0, gh1⟩, ⟨gf0, gf1⟩, ⟨gb0, gb1⟩, ⟨g90, g91⟩, ⟨d0, d1⟩, _⟩ := hL
        go_wp2_with fail
        refine (hgm _).out.mono ?_
        rintro e w16 ⟨rfl, hb⟩
        clear gj0 gj1 gh0 gh1 gf0 gf1 gb0 gb1 g90 g91 d0 d1
        replace hK := keeps_next hb hK
        replace hB := below_on hB hb
        clear hb
        have hL := hK
        simp only [Keeps, List.forall_mem_cons] at hL
        obtain ⟨⟨gj0, gj1⟩, ⟨gh0, gh1⟩, ⟨gf0, gf1⟩, ⟨gb0, gb1⟩, ⟨g90, g91⟩, ⟨d0, d1⟩, _⟩ := hL
        have HB := Lib.hid hB
        clear hB
        go_wp2_with fail
        go_ret
        exact ⟨rfl, HB.out⟩
      · skip
        have hL := hK
        simp only [Keeps, List.forall_mem_cons] at hL
        obtain ⟨⟨gj0, gj1⟩, ⟨gh0, gh1⟩, ⟨gf0, gf1⟩, ⟨gb0, gb1⟩, ⟨g90, g91⟩, ⟨d0, d1⟩, _⟩ := hL
        go_wp2_with fail
        refine (hgd _).out.mono ?_
        rintro e w17 ⟨rfl, hb⟩
        clear gj0 gj1 gh0 gh1 gf0 gf1 gb0 gb1 g90 g91 d0 d1
        replace hK := keeps_next hb hK
        replace hB := below_on hB hb
        clear hb
        have hL := hK
        simp only [Keeps, List.forall_mem_cons] at hL
        obtain ⟨⟨gj0, gj1⟩, ⟨gh0, gh1⟩, ⟨gf0, gf1⟩, ⟨gb0, gb1⟩, ⟨g90, g91⟩, ⟨d0, d1⟩, _⟩ := hL
        go_wp2_with fail
        refine (hgm _).out.mono ?_
        rintro e w18 ⟨rfl, hb⟩
        clear gj0 gj1 gh0 gh1 gf0 gf1 gb0 gb1 g90 g91 d0 d1
        replace hK := keeps_next hb hK
        replace hB := below_on hB hb
        clear hb
        have hL := hK
        simp only [Keeps, List.forall_mem_cons] at hL
        obtain ⟨⟨gj0, gj1⟩, ⟨gh0, gh1⟩, ⟨gf0, gf1⟩, ⟨gb0, gb1⟩, ⟨g90, g91⟩, ⟨d0, d1⟩, _⟩ := hL
        have HB := Lib.hid hB
        clear hB
        go_wp2_with fail
        go_ret
        exact ⟨rfl, HB.out⟩

end Go.Proofs.YtlblkmhiildgeaaDoor
