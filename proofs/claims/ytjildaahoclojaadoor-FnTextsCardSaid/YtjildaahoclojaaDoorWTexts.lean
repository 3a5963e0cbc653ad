/- The walk of laws.FnTexts: numbers, parts and seals come back; a byte that was changed is told. -/
import Derived.Test.YtjildaahoclojaaDoorDrawSeal
import Derived.Test.YtjildaahoclojaaDoorOpenIs
import Derived.Test.YtjildaahoclojaaDoorWReadNum
import Derived.StillTailTactics
import Derived.Deep.RegionHeld3
namespace Go.Proofs.YtjildaahoclojaaDoor
open Go.RowKit

theorem var_lt {w : World} {n : String} {g : Nat} {cs : Array Value} (hg : Tryd.prog.globalNamed n = some g) (hv : w.var? Tryd.prog n = some cs) : g < w.heap.size := by
  unfold World.var? at hv
  simp only [hg, Option.bind_some] at hv
  rcases Nat.lt_or_ge g w.heap.size with h | h
  · exact h
  · rw [Array.getElem?_eq_none h] at hv
    simp at hv

theorem gErrSyntax : Tryd.prog.globalNamed "strconv.ErrSyntax" = some 0 := by kernel_rfl
theorem gErrRange : Tryd.prog.globalNamed "strconv.ErrRange" = some 1 := by kernel_rfl

theorem ErrVars.below {w W : World} (h : ErrVars w) (hb : Below w.heap.size w W) : ErrVars W := by
  obtain ⟨⟨t1, p1, h1⟩, ⟨t2, p2, h2⟩⟩ := h
  exact ⟨⟨t1, p1, var?_below hb gErrSyntax (var_lt gErrSyntax h1) h1⟩, ⟨t2, p2, var?_below hb gErrRange (var_lt gErrRange h2) h2⟩⟩

theorem vAt_val (ao : Option Addr) (n c i : Nat) (w : World) (hc : CodeIn w (.slice ao n c) n) (hn : n ≤ 65536) (hi : i ≤ 1000) :
    ∃ r : Nat, r < 256 ∧ ∀ W, Below w.heap.size w W → Calls Tryd.prog 21 #[.slice ao n c, .int .i64 i] W fun e w' => e = .returned (.int .i64 r) ∧ W = w' := by
  have b0 : (0 : Int) ≤ i := by omega
  by_cases h : i < n
  · rcases hc with ⟨_, _, _, h0⟩ | ⟨b, off, c', he, hp, hcell⟩
    · omega
    · cases he
      obtain ⟨x, hx, hxc0⟩ := hcell i h
      refine ⟨x, hx, fun W hb => ?_⟩
      have hxc := (hb.cell (p := ⟨b, off + i, none⟩) (block_of_cell hxc0)).trans hxc0
      clear hxc0 hb hcell
      have b1 : (i : Int) < n := by omega
      go_enter Tryd.func21, Tryd.ntmps21
      go_wp2
      go_ret
      exact ⟨rfl, rfl⟩
  · refine ⟨(i * 7 + n) % 256, Nat.mod_lt _ (by omega), fun W hb => ?_⟩
    clear hc hb
    have b1 : ¬ (i : Int) < n := by omega
    go_enter Tryd.func21, Tryd.ntmps21
    go_wp2
    go_ret
    exact ⟨ret_int (by simp), rfl⟩

theorem num_is (n : Int) : ∃ r : ByteArray × Bool, (r = (⟨#[]⟩, false) ∨ ∃ q : ByteArray, r = (q, true) ∧ q.data.toList = Lib.itoa n ∧ -999999 ≤ n ∧ n ≤ 999999 ∧ q.size ≤ 1048576) ∧
    (∀ w, Calls Tryd.prog 13 #[.int .i64 n] w fun e w' => e = .returned (.tuple #[.string r.1, .bool r.2]) ∧ ∃ m, w' = w.drewN m) ∧
      (∀ w, Lib.TabIs Tryd.prog w "internal/strconv.uint64pow10" .u64 Lib.pow10Tab → Calls Tryd.prog 12 #[.int .i64 n] w fun e w' => e = .returned (.tuple #[.string r.1, .bool r.2]) ∧ Below w.heap.size w w') := by
  by_cases h : n < -999999 ∨ 999999 < n
  · refine ⟨(⟨#[]⟩, false), Or.inl rfl, fun w => (numTextS_out n w h).mono fun e w' ⟨h1, h2⟩ => ⟨h1, 0, ?_⟩, fun w _ => (numTextI_out n w h).mono fun e w' ⟨h1, h2⟩ => ⟨h1, h2 ▸ Below.refl _ _⟩⟩
    rw [← h2]
    rfl
  · have h1 : -999999 ≤ n := by omega
    have h2 : n ≤ 999999 := by omega
    refine ⟨(⟨(Lib.itoa n).toArray⟩, true), Or.inr ⟨_, rfl, by simp, h1, h2, ?_⟩, fun w => numTextS_in n w h1 h2, fun w ht => numTextI_in n w h1 h2 ht⟩
    show (Lib.itoa n).toArray.size ≤ 1048576
    rw [List.size_toArray]
    unfold Lib.itoa
    split
    · have := decDigits_le n.natAbs (by omega)
      simp
      omega
    · have := decDigits_le n.toNat (by omega)
      omega

theorem seal_is (s : ByteArray) (hs : s.size ≤ maxLen) : ∃ r : ByteArray × Bool, (r = (⟨#[]⟩, false) ∨ ∃ q : ByteArray, r = (q, true) ∧ hasB s.data.toList 35 = false ∧ q.data.toList = sealL s.data.toList ∧ q.size ≤ 4000) ∧
    (∀ w, Calls Tryd.prog 19 #[.string s] w fun e w' => e = .returned (.tuple #[.string r.1, .bool r.2]) ∧ ∃ m, w' = w.drewN m) ∧
      (∀ w, Lib.TabIs Tryd.prog w "internal/strconv.uint64pow10" .u64 Lib.pow10Tab → Calls Tryd.prog 18 #[.string s] w fun e w' => e = .returned (.tuple #[.string r.1, .bool r.2]) ∧ Below w.heap.size w w') := by
  by_cases h : 4000 < s.size
  · exact ⟨(⟨#[]⟩, false), Or.inl rfl, fun w => sealS_big s w hs h, fun w _ => sealI_big s w hs h⟩
  · by_cases hh : hasB s.data.toList 35 = true
    · exact ⟨(⟨#[]⟩, false), Or.inl rfl, fun w => sealS_mark s w (by omega) hh, fun w _ => sealI_mark s w (by omega) hh⟩
    · have hf : hasB s.data.toList 35 = false := by simpa using hh
      by_cases hl : 4000 < (sealL s.data.toList).length
      · exact ⟨(⟨#[]⟩, false), Or.inl rfl, fun w => sealS_long s w (by omega) hf hl, fun w ht => sealI_long s w (by omega) hf hl ht⟩
      · refine ⟨(⟨(sealL s.data.toList).toArray⟩, true), Or.inr ⟨_, rfl, hf, by simp, ?_⟩, fun w => sealS_ok s w (by omega) hf (by omega), fun w ht => sealI_ok s w (by omega) hf (by omega) ht⟩
        show (sealL s.data.toList).toArray.size ≤ 4000
        rw [List.size_toArray]
        omega

theorem bytes_new (s : ByteArray) (w : World) : ∃ W cap, (convert 9 22 (.string s)).run Tryd.prog w = .ok (.slice (some ⟨w.heap.size, 0, none⟩) s.size cap) W ∧ Below w.heap.size w W ∧ w.heap.size < W.heap.size ∧
    (∀ j (h : j < s.size), W.cell? ⟨w.heap.size, j, none⟩ = some (.int .u8 (s[j].toNat : Int))) ∧ ∀ j, j < s.size → W.frozen? ⟨w.heap.size, j, none⟩ = false := by
  refine ⟨_, _, run_bytes_of_string (P := Tryd.prog) w 9 22 5 s Tryd.underlying9 Tryd.underlying22 Tryd.underlying5, ⟨rfl, rfl, rfl, ?_, ?_⟩, ?_, ?_, ?_⟩
  · show w.heap.size ≤ (w.heap.push _).size
    simp
  · intro b hb
    show (w.heap.push _)[b]? = w.heap[b]?
    rw [Array.getElem?_push]
    rw [if_neg (by omega)]
  · show w.heap.size < (w.heap.push _).size
    simp
  · intro j h
    have hb : (w.drew.alloc (.cells (bytesRow s (grownCap w s.size 0 5)) 5 ((bytesRow s (grownCap w s.size 0 5)).size, (bytesRow s (grownCap w s.size 0 5)).size + 1))).heap[w.heap.size]? = some (.cells (bytesRow s (grownCap w s.size 0 5)) 5 ((bytesRow s (grownCap w s.size 0 5)).size, (bytesRow s (grownCap w s.size 0 5)).size + 1)) := by
      show (w.heap.push _)[w.heap.size]? = _
      simp
    rw [cell_of_block hb j]
    unfold bytesRow
    rw [Array.getElem?_append_left (by simpa using h), Array.getElem?_map]
    rw [Array.getElem?_eq_getElem (by simpa using h)]
    rfl
  · intro j h
    rw [show (⟨w.heap.size, j, none⟩ : Addr) = ⟨w.drew.heap.size, j, none⟩ from rfl, World.frozen?_alloc_mark]
    have : j < (bytesRow s (grownCap w s.size 0 5)).size := by
      unfold bytesRow
      simp
      have : j < s.data.size := h
      omega
    have h2 : ¬ (bytesRow s (grownCap w s.size 0 5)).size ≤ j := by omega
    simp [h2]

theorem bent_val (z d : Nat) (hz : z < 256) : ∃ v : Nat, v < 256 ∧ v ≠ z ∧ bits .xor .u8 (z : Int) (IntKind.u8.wrap (IntKind.i64.wrap (1 + (d : Int).tmod 255))) = (v : Int) := by
  have h1 : (d : Int).tmod 255 = ((d % 255 : Nat) : Int) := by
    rw [Int.tmod_eq_emod_of_nonneg (by omega)]
    simp
  have h2 : d % 255 < 255 := Nat.mod_lt _ (by omega)
  rw [h1]
  generalize d % 255 = t at h2
  have h3 : IntKind.u8.wrap (IntKind.i64.wrap (1 + (t : Int))) = ((1 + t : Nat) : Int) := by
    rw [show (1 + (t : Int)) = ((1 + t : Nat) : Int) from by omega]
    have h4 : IntKind.i64.wrap ((1 + t : Nat) : Int) = ((1 + t : Nat) : Int) := IntWalk.i64_in _ (by omega)
    rw [h4, IntKind.wrap_u8']
    omega
  rw [h3, u8_xor_nat z (1 + t) hz (by omega)]
  refine ⟨_, Nat.xor_lt_two_pow (n := 8) hz (by omega), fun e => ?_, rfl⟩
  have := congrArg (z ^^^ ·) e
  simp [← Nat.xor_assoc] at this

theorem bent_world (w : World) (g k : Nat) (cap : Nat) (v : Nat) (hv : v < 256) (B : Nat) (hB : B ≤ g) (s : ByteArray) (hk : k < s.size) (hcell : ∀ j (h : j < s.size), w.cell? ⟨g, j, none⟩ = some (.int .u8 (s[j].toNat : Int))) :
    Below B w (w.setCell ⟨g, k, none⟩ (.int .u8 v)).drew ∧
      (convert 22 9 (.slice (some ⟨g, 0, none⟩) s.size cap)).run Tryd.prog (w.setCell ⟨g, k, none⟩ (.int .u8 v)).drew = .ok (.string ⟨(s.data.toList.set k (UInt8.ofNat v)).toArray⟩) (w.setCell ⟨g, k, none⟩ (.int .u8 v)).drew := by
  have hlen : (s.data.toList.set k (UInt8.ofNat v)).length = s.size := by simp
  constructor
  · have hb := (Below.refl B w).setCell (p := ⟨g, k, none⟩) hB (.int .u8 v)
    exact ⟨hb.os, hb.tape, hb.output, hb.size, hb.block⟩
  · have := run_convert_bytes_back (P := Tryd.prog) (w.setCell ⟨g, k, none⟩ (.int .u8 v)).drew 22 9 5 ⟨g, 0, none⟩ cap (s.data.toList.set k (UInt8.ofNat v)) Tryd.underlying22 Tryd.underlying5 Tryd.underlying9 (fun j hj => by
      rw [Go.WideShapes.add_plain, Nat.zero_add]
      show (w.setCell ⟨g, k, none⟩ (.int .u8 v)).cell? ⟨g, j, none⟩ = _
      have hj2 : j < s.size := by omega
      by_cases h : k = j
      · subst h
        rw [World.cell?_setCell_same' w _ _ (by rw [hcell k hk]; rfl)]
        simp
        omega
      · have hne : (⟨g, k, none⟩ : Addr) ≠ ⟨g, j, none⟩ := by
          intro e
          injection e with e1 e2
          exact h e2
        rw [World.cell?_setCell_other (h := hne), hcell j hj2]
        simp [List.getElem_set_ne h]
        rfl)
    rw [hlen] at this
    exact this

set_option maxRecDepth 100000 in
set_option maxHeartbeats 2000000 in
theorem fnTexts_walk (ao : Option Addr) (n c : Nat) (w : World) (hc : CodeIn w (.slice ao n c) n) (hn : n ≤ maxLen) (m : Int) (hm : w.cell? ⟨2, 0, none⟩ = some (.int .i64 m))
    (hv : ErrVars w) (hg : Tryd.prog.globalNamed "internal/strconv.uint64pow10" = some 3) (htab : Lib.TabIs Tryd.prog w "internal/strconv.uint64pow10" .u64 Lib.pow10Tab) :
    Calls Tryd.prog 3 #[.slice ao n c] w fun e w' => e = .returned (.bool true) ∧ Below w.heap.size w w' := by
  unfold maxLen at hn
  by_cases hA : 65536 < n
  · have HV := Lib.hid (vBig_yes ao n c w hA hn)
    clear hc hm hv hg htab
    go_enter Tryd.func3, Tryd.ntmps3
    go_wp2_with fail
    refine HV.out.mono ?_
    rintro e w1 ⟨rfl, rfl⟩
    go_wp2_with fail
    go_ret
    exact ⟨rfl, Below.refl _ _⟩
  · have HV := Lib.hid (vBig_no ao n c w (by omega))
    have hn2 : n ≤ 1000000 := by omega
    have hn3 : n ≤ 65536 := by omega
    have hlt := tabPow_lt htab hg
    have HT : ∀ W, Below w.heap.size w W → Hid (Lib.TabIs Tryd.prog W "internal/strconv.uint64pow10" .u64 Lib.pow10Tab) := fun W hb => Lib.hid (tabIs_below hg hlt hb htab)
    have HR : ∀ (s : ByteArray) (W : World), s.size ≤ 1048576 → Below w.heap.size w W → Hid (Calls Tryd.prog 15 #[.string s] W fun e w' => ReadTo s.data.toList e ∧ Below W.heap.size W w') := fun s W hs hb =>
      Lib.hid (readNumI_calls s W hs (hv.below hb) hg (Nat.lt_of_lt_of_le hlt hb.size) (tabIs_below hg hlt hb htab))
    have HD1 := Lib.hid (drawNumText_calls ao n c w hc hn2)
    have HD2 : ∀ W : World, Below w.heap.size w W → Hid (Calls Tryd.prog 14 #[.slice ao n c] W fun e w' => (∃ x : ByteArray, x.size ≤ 30 ∧ e = .returned (.string x)) ∧ Below W.heap.size W w') := fun W hb => Lib.hid (drawReadNum_calls ao n c W (hc.below hb) hn2)
    have HD3 : ∀ W : World, Below w.heap.size w W → Hid (Calls Tryd.prog 17 #[.slice ao n c] W fun e w' => (∃ x : ByteArray, x.size ≤ 5000 ∧ e = .returned (.string x)) ∧ Below W.heap.size W w') := fun W hb => Lib.hid (drawSealText_calls ao n c W (hc.below hb) hn2)
    obtain ⟨k9, hk9, hA9⟩ := vAt_val ao n c 9 w hc hn3 (by omega)
    obtain ⟨k10, hk10, hA10⟩ := vAt_val ao n c 10 w hc hn3 (by omega)
    have HA9 := Lib.hid hA9
    have HA10 := Lib.hid hA10
    clear hA9 hA10
    have HOS : ∀ (s : ByteArray) (W : World), s.size ≤ 1048576 → Hid (Calls Tryd.prog 22 #[.string s] W fun e w' => e = .returned (.tuple #[.string (openR s).1, .bool (openR s).2]) ∧ Below W.heap.size W w') := fun s W hs => Lib.hid ((open_is s hs).1 W)
    have HO : ∀ (s : ByteArray) (W : World), s.size ≤ 1048576 → Below w.heap.size w W → Hid (Calls Tryd.prog 20 #[.string s] W fun e w' => e = .returned (.tuple #[.string (openR s).1, .bool (openR s).2]) ∧ Below W.heap.size W w') := fun s W hs hb =>
      Lib.hid ((open_is s hs).2 W m ((hb.cell (p := ⟨2, 0, none⟩) (block_of_cell hm)).trans hm) (tabIs_below hg hlt hb htab))
    clear hc hm hn hA hn2 hn3 hv htab hlt
    go_enter Tryd.func3, Tryd.ntmps3
    go_wp2_with fail
    refine HV.out.mono ?_
    rintro e w1 ⟨rfl, rfl⟩
    go_wp2_with fail
    refine HD1.out.mono ?_
    rintro e w1 ⟨⟨x, hx1, hx2, rfl⟩, hb1⟩
    have HB1 := Lib.hid hb1
    obtain ⟨⟨s1, b1⟩, hr1, hs1, hi1⟩ := num_is x
    have HN := Lib.hid hr1
    have HS1 := Lib.hid hs1
    have HI1 := Lib.hid hi1
    clear hb1 hr1 hs1 hi1
    go_wp2_with fail
    refine (HI1.out w1 (HT _ HB1.out).out).mono ?_
    rintro e w2 ⟨rfl, hb2⟩
    have HB2 : Hid (Below w.heap.size w w2) := Lib.hid (HB1.out.trans (hb2.mono HB1.out.size))
    clear hb2 HI1
    go_wp2_with fail
    refine (HS1.out w2).mono ?_
    rintro e w3 ⟨rfl, m3, rfl⟩
    have HB3 : Hid (Below w.heap.size w (w2.drewN m3)) := Lib.hid (Below.drewN HB2.out m3)
    clear HS1
    go_wp2_with fail
    refine (HD2 _ HB3.out).out.mono ?_
    rintro e w4 ⟨⟨t, ht, rfl⟩, hb4⟩
    have HB4 : Hid (Below w.heap.size w w4) := Lib.hid (HB3.out.trans (hb4.mono HB3.out.size))
    clear hb4
    go_wp2_with fail
    refine (HR t w4 (by omega) HB4.out).out.mono ?_
    rintro e w5 ⟨hr, hb5⟩
    obtain ⟨k5, c5, rfl, hr5⟩ := readTo_pair hr
    have HR5 := Lib.hid hr5
    have HB5 : Hid (Below w.heap.size w w5) := Lib.hid (HB4.out.trans (hb5.mono HB4.out.size))
    clear hr hr5 hb5
    go_wp2_with fail
    refine (readNumS_calls t w5 (by omega)).mono ?_
    rintro e w6 ⟨hr, m6, rfl⟩
    obtain ⟨k6, c6, rfl, hr6⟩ := readTo_pair hr
    obtain ⟨e1, e2⟩ := readTo_unique HR5.out hr6
    have HB6 : Hid (Below w.heap.size w (w5.drewN m6)) := Lib.hid (Below.drewN HB5.out m6)
    clear hr hr6 HR5
    subst e1 e2
    go_wp2_with fail
    refine (HD3 _ HB6.out).out.mono ?_
    rintro e w7 ⟨⟨y, hy, rfl⟩, hb7⟩
    have HB7 : Hid (Below w.heap.size w w7) := Lib.hid (HB6.out.trans (hb7.mono HB6.out.size))
    obtain ⟨⟨s2, b2⟩, hr2, hs2, hi2⟩ := seal_is y (by unfold maxLen; omega)
    have HQ := Lib.hid hr2
    have HS2 := Lib.hid hs2
    have HI2 := Lib.hid hi2
    clear hb7 hr2 hs2 hi2
    go_wp2_with fail
    refine (HI2.out w7 (HT _ HB7.out).out).mono ?_
    rintro e w8 ⟨rfl, hb8⟩
    have HB8 : Hid (Below w.heap.size w w8) := Lib.hid (HB7.out.trans (hb8.mono HB7.out.size))
    clear hb8 HI2
    go_wp2_with fail
    refine (HS2.out w8).mono ?_
    rintro e w9 ⟨rfl, m9, rfl⟩
    have HB9 : Hid (Below w.heap.size w (w8.drewN m9)) := Lib.hid (Below.drewN HB8.out m9)
    clear HS2
    go_wp2_with fail
    rcases HN.out with hq | ⟨q0, hq, hn1, hn2, hn3, hn4⟩
    · cases hq
      clear HN
      go_wp2_with fail
      refine (HR ⟨#[]⟩ _ (by decide) HB9.out).out.mono ?_
      rintro e w10 ⟨hr, hb10⟩
      obtain ⟨k10', c10, rfl, _⟩ := readTo_pair hr
      have HB10 : Hid (Below w.heap.size w w10) := Lib.hid (HB9.out.trans (hb10.mono HB9.out.size))
      clear hr hb10
      rcases HQ.out with hq | ⟨q, hq, hq1, hq2, hq3⟩
      · cases hq
        clear HQ
        go_wp2_with fail
        go_ret
        exact ⟨ret_bool rfl, HB10.out⟩
      · cases hq
        have HQ2 := Lib.hid hq2
        have HQ1 := Lib.hid hq1
        have hO1 := (HO s2 w10 (by omega) HB10.out).out
        rw [openR_seal hq1 hq2 hq3] at hO1
        have HO1 := Lib.hid hO1
        clear hO1 hq1 hq2 HQ
        go_wp2_with fail
        refine HO1.out.mono ?_
        rintro e w11 ⟨rfl, hb11⟩
        have HB11 : Hid (Below w.heap.size w w11) := Lib.hid (HB10.out.trans (hb11.mono HB10.out.size))
        obtain ⟨w12, cap, hcv, hb12, hlt12, hcell, hfree⟩ := bytes_new s2 w11
        have HB12 : Hid (Below w.heap.size w w12) := Lib.hid (HB11.out.trans (hb12.mono HB11.out.size))
        have HC12 := Lib.hid hcell
        have HF12 := Lib.hid hfree
        have HG : Hid (w.heap.size ≤ w11.heap.size) := Lib.hid HB11.out.size
        have HK12 : Hid (w11.heap.size < w12.heap.size) := Lib.hid hlt12
        have hz : 1 ≤ s2.size := by
          have := congrArg List.length HQ2.out
          simp [sealL] at this
          omega
        have hz0 : ((s2.size : Int) == 0) = false := by rw [beq_eq_false_iff_ne]; omega
        clear hb11 HO1 hb12 hcell hfree hlt12
        go_wp2_with fail
        refine (HA9.out w12 HB12.out).mono ?_
        rintro e w13 ⟨rfl, rfl⟩
        go_wp2_with fail
        obtain ⟨k, hk, hkk⟩ : ∃ k : Nat, k < s2.size ∧ (k9 : Int) % s2.size = k := ⟨k9 % s2.size, Nat.mod_lt _ (by omega), by simp⟩
        obtain ⟨z, hz256, hzk⟩ : ∃ z : Nat, z < 256 ∧ s2[k].toNat = z := ⟨_, s2[k].toNat_lt, rfl⟩
        have c1 := HC12.out k hk
        have f1 := HF12.out k hk
        rw [hzk] at c1
        rw [hkk]
        have HZ := Lib.hid hzk
        have b0 : (0 : Int) ≤ k := by omega
        have b1 : (k : Int) < s2.size := by omega
        clear hkk hzk
        have hv10 : Calls Tryd.prog 21 #[.slice ao n c, .int .i64 10] { w12 with drawn := w12.drawn + 1 } fun e w' => e = .returned (.int .i64 k10) ∧ w' = { w12 with drawn := w12.drawn + 1 } :=
          (HA10.out { w12 with drawn := w12.drawn + 1 } ⟨HB12.out.os, HB12.out.tape, HB12.out.output, HB12.out.size, HB12.out.block⟩).mono fun e w' ⟨h1, h2⟩ => ⟨h1, h2.symm⟩
        have HV10 := Lib.hid hv10
        have c2 : ({ w12 with drawn := w12.drawn + 1 } : World).cell? ⟨w11.heap.size, k, none⟩ = some (.int .u8 z) := c1
        have f2 : ({ w12 with drawn := w12.drawn + 1 } : World).frozen? ⟨w11.heap.size, k, none⟩ = false := f1
        obtain ⟨v, hv256, hvz, hv⟩ := bent_val z k10 hz256
        obtain ⟨hB14, hcv2⟩ := bent_world w12 w11.heap.size k cap v hv256 w.heap.size HG.out s2 hk (fun j hj => HC12.out j hj)
        have HB14 := Lib.hid hB14
        have HVE := Lib.hid hv
        have HCV := Lib.hid hcv2
        clear hv10 hB14 hv hcv2
        go_still_tail 13, (by kernel_rfl)
        still_call HV10.out
        repeat still_step
        refine wpStill_nil ?_
        rw [HVE.out]
        have hcv2 := HCV.out
        have HB15 : Hid (Below w.heap.size w (w12.setCell ⟨w11.heap.size, k, none⟩ (.int .u8 v)).drew) := Lib.hid (HB12.out.trans HB14.out)
        have HO2 : Hid ((⟨(s2.data.toList.set k (UInt8.ofNat v)).toArray⟩ : ByteArray).data.toList = s2.data.toList.set k (UInt8.ofNat v)) := Lib.hid (by simp)
        have hosz : (⟨(s2.data.toList.set k (UInt8.ofNat v)).toArray⟩ : ByteArray).size ≤ 1048576 := by
          show (s2.data.toList.set k (UInt8.ofNat v)).toArray.size ≤ 1048576
          rw [List.size_toArray, List.length_set]
          have : s2.data.toList.length = s2.size := by simp
          omega
        generalize (⟨(s2.data.toList.set k (UInt8.ofNat v)).toArray⟩ : ByteArray) = o at hcv2 HO2 hosz
        have hbent : (openR o).2 = true → (openR o).1.data.toList.length ≠ y.data.toList.length := fun hh => bent_no y.data.toList (openR o).1.data.toList k (UInt8.ofNat v) (by rw [← HQ2.out]; simpa using hk) (by
          rw [← HQ2.out]
          intro e
          rw [List.getElem?_eq_getElem (by simpa using hk)] at e
          injection e with e
          have e2 : s2[k] = UInt8.ofNat v := e
          have := HZ.out
          rw [e2] at this
          rw [UInt8.toNat_ofNat'] at this
          omega) (by rw [openR_true hh, HO2.out, HQ2.out])
        have HOI := Lib.hid (HO o _ hosz HB15.out).out
        have HOZ : ∀ W, Hid (Calls Tryd.prog 22 #[.string o] W fun e w' => e = .returned (.tuple #[.string (openR o).1, .bool (openR o).2]) ∧ Below W.heap.size W w') := fun W => HOS o W hosz
        obtain ⟨⟨p, bb⟩, hR⟩ : ∃ r, openR o = r := ⟨_, rfl⟩
        rw [hR] at HOI hbent
        simp only [hR] at HOZ
        have HBN : Hid (bb = true → ((p.size : Int) != (y.size : Int)) = true) := Lib.hid (fun hh => by
          have h1 : p.data.toList.length ≠ y.data.toList.length := hbent hh
          have h2 : p.data.toList.length = p.size := by simp
          have h3 : y.data.toList.length = y.size := by simp
          rw [h2, h3] at h1
          rw [bne_iff_ne]
          omega)
        clear hbent hR hosz HO2 HQ2 HZ HCV HB14 HO HOS HA10 HA9 HC12 HF12
        go_wp2_with fail
        refine HOI.out.mono ?_
        rintro e w16 ⟨rfl, hb16⟩
        have HB16 : Hid (Below w.heap.size w w16) := Lib.hid (HB15.out.trans (hb16.mono HB15.out.size))
        clear hb16 HOI hcv2 c1 f1 c2 f2
        go_wp2_with fail
        refine (HOZ w16).out.mono ?_
        rintro e w17 ⟨rfl, hb17⟩
        have HB17 : Hid (Below w.heap.size w w17) := Lib.hid (HB16.out.trans (hb17.mono HB16.out.size))
        clear hb17 HOZ
        cases bb
        · go_wp2_with fail
          go_ret
          exact ⟨ret_bool rfl, HB17.out⟩
        · have hpn := HBN.out rfl
          go_wp2_with fail
          go_ret
          exact ⟨ret_bool rfl, HB17.out⟩
    · cases hq
      have HN1 := Lib.hid hn1
      clear HN hn1
      go_wp2_with fail
      refine (HR s1 _ hn4 HB9.out).out.mono ?_
      rintro e w10 ⟨hr, hb10⟩
      obtain ⟨k10', c10, rfl, hr10⟩ := readTo_pair hr
      obtain ⟨e1, e2⟩ := readTo_unique (Or.inl ⟨x, hn2, hn3, HN1.out.symm, rfl⟩) hr10
      have HB10 : Hid (Below w.heap.size w w10) := Lib.hid (HB9.out.trans (hb10.mono HB9.out.size))
      clear hr hb10 hr10 hn2 hn3 HN1
      subst e1 e2
      rcases HQ.out with hq | ⟨q, hq, hq1, hq2, hq3⟩
      · cases hq
        clear HQ
        go_wp2_with fail
        go_ret
        exact ⟨ret_bool rfl, HB10.out⟩
      · cases hq
        have HQ2 := Lib.hid hq2
        have HQ1 := Lib.hid hq1
        have hO1 := (HO s2 w10 (by omega) HB10.out).out
        rw [openR_seal hq1 hq2 hq3] at hO1
        have HO1 := Lib.hid hO1
        clear hO1 hq1 hq2 HQ
        go_wp2_with fail
        refine HO1.out.mono ?_
        rintro e w11 ⟨rfl, hb11⟩
        have HB11 : Hid (Below w.heap.size w w11) := Lib.hid (HB10.out.trans (hb11.mono HB10.out.size))
        obtain ⟨w12, cap, hcv, hb12, hlt12, hcell, hfree⟩ := bytes_new s2 w11
        have HB12 : Hid (Below w.heap.size w w12) := Lib.hid (HB11.out.trans (hb12.mono HB11.out.size))
        have HC12 := Lib.hid hcell
        have HF12 := Lib.hid hfree
        have HG : Hid (w.heap.size ≤ w11.heap.size) := Lib.hid HB11.out.size
        have HK12 : Hid (w11.heap.size < w12.heap.size) := Lib.hid hlt12
        have hz : 1 ≤ s2.size := by
          have := congrArg List.length HQ2.out
          simp [sealL] at this
          omega
        have hz0 : ((s2.size : Int) == 0) = false := by rw [beq_eq_false_iff_ne]; omega
        clear hb11 HO1 hb12 hcell hfree hlt12
        go_wp2_with fail
        refine (HA9.out w12 HB12.out).mono ?_
        rintro e w13 ⟨rfl, rfl⟩
        go_wp2_with fail
        obtain ⟨k, hk, hkk⟩ : ∃ k : Nat, k < s2.size ∧ (k9 : Int) % s2.size = k := ⟨k9 % s2.size, Nat.mod_lt _ (by omega), by simp⟩
        obtain ⟨z, hz256, hzk⟩ : ∃ z : Nat, z < 256 ∧ s2[k].toNat = z := ⟨_, s2[k].toNat_lt, rfl⟩
        have c1 := HC12.out k hk
        have f1 := HF12.out k hk
        rw [hzk] at c1
        rw [hkk]
        have HZ := Lib.hid hzk
        have b0 : (0 : Int) ≤ k := by omega
        have b1 : (k : Int) < s2.size := by omega
        clear hkk hzk
        have hv10 : Calls Tryd.prog 21 #[.slice ao n c, .int .i64 10] { w12 with drawn := w12.drawn + 1 } fun e w' => e = .returned (.int .i64 k10) ∧ w' = { w12 with drawn := w12.drawn + 1 } :=
          (HA10.out { w12 with drawn := w12.drawn + 1 } ⟨HB12.out.os, HB12.out.tape, HB12.out.output, HB12.out.size, HB12.out.block⟩).mono fun e w' ⟨h1, h2⟩ => ⟨h1, h2.symm⟩
        have HV10 := Lib.hid hv10
        have c2 : ({ w12 with drawn := w12.drawn + 1 } : World).cell? ⟨w11.heap.size, k, none⟩ = some (.int .u8 z) := c1
        have f2 : ({ w12 with drawn := w12.drawn + 1 } : World).frozen? ⟨w11.heap.size, k, none⟩ = false := f1
        obtain ⟨v, hv256, hvz, hv⟩ := bent_val z k10 hz256
        obtain ⟨hB14, hcv2⟩ := bent_world w12 w11.heap.size k cap v hv256 w.heap.size HG.out s2 hk (fun j hj => HC12.out j hj)
        have HB14 := Lib.hid hB14
        have HVE := Lib.hid hv
        have HCV := Lib.hid hcv2
        clear hv10 hB14 hv hcv2
        go_still_tail 13, (by kernel_rfl)
        still_call HV10.out
        repeat still_step
        refine wpStill_nil ?_
        rw [HVE.out]
        have hcv2 := HCV.out
        have HB15 : Hid (Below w.heap.size w (w12.setCell ⟨w11.heap.size, k, none⟩ (.int .u8 v)).drew) := Lib.hid (HB12.out.trans HB14.out)
        have HO2 : Hid ((⟨(s2.data.toList.set k (UInt8.ofNat v)).toArray⟩ : ByteArray).data.toList = s2.data.toList.set k (UInt8.ofNat v)) := Lib.hid (by simp)
        have hosz : (⟨(s2.data.toList.set k (UInt8.ofNat v)).toArray⟩ : ByteArray).size ≤ 1048576 := by
          show (s2.data.toList.set k (UInt8.ofNat v)).toArray.size ≤ 1048576
          rw [List.size_toArray, List.length_set]
          have : s2.data.toList.length = s2.size := by simp
          omega
        generalize (⟨(s2.data.toList.set k (UInt8.ofNat v)).toArray⟩ : ByteArray) = o at hcv2 HO2 hosz
        have hbent : (openR o).2 = true → (openR o).1.data.toList.length ≠ y.data.toList.length := fun hh => bent_no y.data.toList (openR o).1.data.toList k (UInt8.ofNat v) (by rw [← HQ2.out]; simpa using hk) (by
          rw [← HQ2.out]
          intro e
          rw [List.getElem?_eq_getElem (by simpa using hk)] at e
          injection e with e
          have e2 : s2[k] = UInt8.ofNat v := e
          have := HZ.out
          rw [e2] at this
          rw [UInt8.toNat_ofNat'] at this
          omega) (by rw [openR_true hh, HO2.out, HQ2.out])
        have HOI := Lib.hid (HO o _ hosz HB15.out).out
        have HOZ : ∀ W, Hid (Calls Tryd.prog 22 #[.string o] W fun e w' => e = .returned (.tuple #[.string (openR o).1, .bool (openR o).2]) ∧ Below W.heap.size W w') := fun W => HOS o W hosz
        obtain ⟨⟨p, bb⟩, hR⟩ : ∃ r, openR o = r := ⟨_, rfl⟩
        rw [hR] at HOI hbent
        simp only [hR] at HOZ
        have HBN : Hid (bb = true → ((p.size : Int) != (y.size : Int)) = true) := Lib.hid (fun hh => by
          have h1 : p.data.toList.length ≠ y.data.toList.length := hbent hh
          have h2 : p.data.toList.length = p.size := by simp
          have h3 : y.data.toList.length = y.size := by simp
          rw [h2, h3] at h1
          rw [bne_iff_ne]
          omega)
        clear hbent hR hosz HO2 HQ2 HZ HCV HB14 HO HOS HA10 HA9 HC12 HF12
        go_wp2_with fail
        refine HOI.out.mono ?_
        rintro e w16 ⟨rfl, hb16⟩
        have HB16 : Hid (Below w.heap.size w w16) := Lib.hid (HB15.out.trans (hb16.mono HB15.out.size))
        clear hb16 HOI hcv2 c1 f1 c2 f2
        go_wp2_with fail
        refine (HOZ w16).out.mono ?_
        rintro e w17 ⟨rfl, hb17⟩
        have HB17 : Hid (Below w.heap.size w w17) := Lib.hid (HB16.out.trans (hb17.mono HB16.out.size))
        clear hb17 HOZ
        cases bb
        · go_wp2_with fail
          go_ret
          exact ⟨ret_bool rfl, HB17.out⟩
        · have hpn := HBN.out rfl
          go_wp2_with fail
          go_ret
          exact ⟨ret_bool rfl, HB17.out⟩

end Go.Proofs.YtjildaahoclojaaDoor
