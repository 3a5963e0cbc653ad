/- The draw of a list of texts. -/
import Derived.Test.YtjildaahoclojaaDoorDrawTexts
import Derived.Test.YtjildaahoclojaaDoorSplitS
namespace Go.Proofs.YtjildaahoclojaaDoor
open Go.RowKit

theorem infoU8 : (Tryd.prog.info? 5).map (fun i => (i.zero, i.size, i.bytes)) = some (some (.int .u8 0), 1, 1) := by kernel_rfl

/-- a text of zeros -/
theorem conv_zeros {w : World} {base g c k : Nat} {xs : List Value} (hx : xs = List.replicate k (.int .u8 0)) (h : w.ownsRow base 5 1 (.slice (some ⟨g, 0, none⟩) k c) k xs) :
    (convert 22 9 (.slice (some ⟨g, 0, none⟩) k c)).run Tryd.prog w = .ok (.string (strOfNums (List.replicate k 0))) w := by
  refine run_convert_bytes_arg w 22 5 Tryd.underlying22 Tryd.underlying5 g 0 k c (List.replicate k 0) (by simp) (fun i hi => ?_) 9 Tryd.underlying9
  rw [Nat.zero_add, World.ownsRow.cellAt h i (by omega), hx]
  simp [hi]

theorem made_u8 (k : Nat) : (madeCells (Value.int .u8 0).cells (k * 1)).toList = List.replicate k (.int .u8 0) := by
  show (madeCells #[Value.int .u8 0] (k * 1)).toList = _
  apply List.ext_getElem
  · simp [madeCells]
  · intro i h1 h2
    simp [madeCells, Nat.mod_one]

theorem conv_zeros' {w : World} {base g c k : Nat} (h : w.ownsRow base 5 1 (.slice (some ⟨g, 0, none⟩) k c) k (madeCells (Value.int .u8 0).cells (k * 1)).toList) :
    ∃ z : ByteArray, z.size ≤ k ∧ (convert 22 9 (.slice (some ⟨g, 0, none⟩) k c)).run Tryd.prog w = .ok (.string z) w :=
  ⟨_, by rw [strOfNums_size]; simp, conv_zeros (made_u8 k) h⟩

def joinSigns : List ByteArray := [⟨#[44]⟩, ⟨#[59]⟩, ⟨#[59]⟩, ⟨#[]⟩, ⟨#[97, 98]⟩]

/-- a list of short strings in memory of the call's own, beside the cursor -/
def Lst (W0 w : World) (v : Value) (l : List ByteArray) : Prop := OwnsStrs w (W0.heap.size + 1) v l ∧ ∃ g c, v = .slice (some ⟨g, 0, none⟩) l.length c

theorem Lst.kept {W0 w w' : World} {v : Value} {l : List ByteArray} (h : Lst W0 w v l) (hg : w.grownBy w' (some W0.heap.size)) : Lst W0 w' v l := by
  obtain ⟨h1, g, c, rfl⟩ := h
  have hge := (World.ownsRow.lt h1 g rfl).1
  exact ⟨World.ownsRow.kept h1 hg (Or.inr (by simp [Value.ownBlock]; omega)), g, c, rfl⟩

theorem Lst.keptNone {W0 w w' : World} {v : Value} {l : List ByteArray} (h : Lst W0 w v l) (hg : w.grownBy w' none) : Lst W0 w' v l := by
  obtain ⟨h1, g, c, rfl⟩ := h
  exact ⟨World.ownsRow.kept h1 hg (Or.inr (by simp [Value.ownBlock])), g, c, rfl⟩

theorem Lst.append {W0 w w1 : World} {v v' : Value} {l : List ByteArray} {x : ByteArray} {o : Obj} {code : Value} {N : Nat} (h : Lst W0 w v l) (hc : Cur W0 w W0.heap.size code N)
    (hown : w1.ownsRow (W0.heap.size + 1) 9 1 v' (l.length + 1) (l.map Value.string ++ [.string x])) (hg : (w.alloc o).grownBy w1 v.ownBlock) :
    Lst W0 w1 v' (l ++ [x]) ∧ Cur W0 w1 W0.heap.size code N := by
  obtain ⟨h1, g, c, rfl⟩ := h
  have hge := (World.ownsRow.lt h1 g rfl).1
  have ho : OwnsStrs w1 (W0.heap.size + 1) v' (l ++ [x]) := by unfold OwnsStrs; simpa using hown
  refine ⟨⟨ho, ?_⟩, ?_⟩
  · obtain ⟨g', c', hv⟩ := ownsStrs_shape ho (by simp)
    exact ⟨g', c', hv⟩
  · exact (hc.grown (World.grownBy_alloc w o none) (fun k hk => by cases hk) (by simp)).grown hg (fun k hk => by simp [Value.ownBlock] at hk; omega) (by simp [Value.ownBlock]; omega)

set_option maxRecDepth 100000 in
set_option maxHeartbeats 2000000 in
theorem drawJoinTexts_calls (ao : Option Addr) (n c : Nat) (w : World) (hc : CodeIn w (.slice ao n c) n) (hn : n ≤ 1000000) :
    Calls Tryd.prog 25 #[.slice ao n c] w fun e w' => (∃ v l y, e = .returned (.tuple #[v, .string y]) ∧ l.length ≤ 5 ∧ (∀ x ∈ l, ByteArray.size x ≤ 5000) ∧ y.size ≤ 10 ∧ Lst w w' v l) ∧ Below w.heap.size w w' := by
  obtain ⟨i0, hi, hz0, hz1, hz2⟩ := info_parts infoStr
  obtain ⟨j0, hj, hy0, hy1, hy2⟩ := info_parts infoU8
  have HC := Lib.hid (cur_new w (.slice ao n c))
  have HP : ∀ (W : World) (N m : Nat), N ≤ 50 → 1 ≤ m → m ≤ 1000 → Cur w W w.heap.size (.slice ao n c) N → Hid (Calls Tryd.prog 36 #[.pointer (some ⟨w.heap.size, 0, none⟩), .int .i64 m] W fun e w' => (∃ r : Nat, r < m ∧ e = .returned (.int .i64 r)) ∧ Cur w w' w.heap.size (.slice ao n c) (N + 2) ∧ W.grownBy w' (some w.heap.size)) := fun W N m hN h1 h2 hW => Lib.hid (pick_calls w W w.heap.size n N m (.slice ao n c) hc hn hW (by omega) h1 (by omega))
  have HB : ∀ W N, N ≤ 50 → Cur w W w.heap.size (.slice ao n c) N → Hid (Calls Tryd.prog 40 #[.pointer (some ⟨w.heap.size, 0, none⟩), .int .i64 20] W fun e w' => (∃ b : Bool, e = .returned (.bool b)) ∧ Cur w w' w.heap.size (.slice ao n c) (N + 2) ∧ W.grownBy w' (some w.heap.size)) := fun W N hN hW => Lib.hid (one_calls w W w.heap.size n N 20 (.slice ao n c) hc hn hW (by omega) (by omega) (by omega))
  have HA : ∀ W N, N ≤ 50 → Cur w W w.heap.size (.slice ao n c) N → Hid (Calls Tryd.prog 44 #[.pointer (some ⟨w.heap.size, 0, none⟩)] W fun e w' => (∃ x ∈ any1L, e = .returned (.string x)) ∧ Cur w w' w.heap.size (.slice ao n c) (N + 2) ∧ W.grownBy w' (some w.heap.size)) := fun W N hN hW => Lib.hid (any1_calls w W w.heap.size n N (.slice ao n c) hc hn hW (by omega))
  have HL : ∀ W N, N ≤ 50 → Cur w W w.heap.size (.slice ao n c) N → Hid (Calls Tryd.prog 41 #[.pointer (some ⟨w.heap.size, 0, none⟩), .slice (some ⟨W.heap.size, 0, none⟩) 5 5] (W.alloc (.cells (joinSigns.map Value.string).toArray 9)) fun e w' => (∃ x ∈ joinSigns, e = .returned (.string x)) ∧ Cur w w' w.heap.size (.slice ao n c) (N + 2) ∧ W.grownBy w' (some w.heap.size)) := fun W N hN hW => Lib.hid (of_lit w W w.heap.size n N (.slice ao n c) joinSigns _ rfl 5 rfl hc hn hW (by omega) (by decide) (by decide))
  clear hc hn
  go_enter Tryd.func25, Tryd.ntmps25
  go_wp2_with fail
  have HC2 : Hid (Cur w ((w.alloc (.cells #[.slice ao n c, .int .i64 0, .int .u64 0] 48)).alloc (.cells #[] 9)) w.heap.size (.slice ao n c) 0) := Lib.hid (HC.out.grown (World.grownBy_alloc _ _ none) (fun k hk => by cases hk) (by simp))
  have HL2 : Hid (Lst w ((w.alloc (.cells #[.slice ao n c, .int .i64 0, .int .u64 0] 48)).alloc (.cells #[] 9)) (.slice (some ⟨w.heap.size + 1, 0, none⟩) 0 0) []) := Lib.hid ⟨by
    have h := World.ownsRow_lit (base := w.heap.size + 1) (e := 9) (size := 1) (w.alloc (.cells #[.slice ao n c, .int .i64 0, .int .u64 0] 48)) #[] 0 (by simp) (by unfold maxLen; omega) rfl
    simpa [OwnsStrs] using h, _, _, rfl⟩
  refine (HP _ 0 4 (by omega) (by omega) (by omega) HC2.out).out.mono ?_
  rintro e w1 ⟨⟨m, hm, rfl⟩, hc1, hg1⟩
  have HC1 := Lib.hid hc1
  have HL1 := Lib.hid (HL2.out.kept hg1)
  clear hc1 hg1 HC HC2 HL2
  go_wp2_with fail
  go_loopw [5, 7] (fun v i wr => ∃ (k : Nat) (l : List ByteArray), k ≤ m ∧ i = .int .i64 k ∧ l.length ≤ k ∧ (∃ g d, v = .slice (some ⟨g, 0, none⟩) l.length d) ∧ Hid (∀ x ∈ l, ByteArray.size x ≤ 5000) ∧ Hid (Lst w wr v l) ∧ Hid (Cur w wr w.heap.size (.slice ao n c) (2 + 2 * k))) (fun _ i _ => m - (intOf i).toNat)
  case atStart => exact ⟨0, [], by omega, rfl, by simp, ⟨_, _, rfl⟩, Lib.hid (fun x hx => by cases hx), HL1, Lib.hid (HC1.out.mono (by omega))⟩
  case round =>
    obtain ⟨k, l, hk, rfl, hlk, ⟨g, d, rfl⟩, hx, hl, hcu⟩ := hrel
    by_cases hlt : k < m
    · go_wp2_with fail
      refine (HA wr (2 + 2 * k) (by omega) hcu.out).out.mono ?_
      rintro e w2 ⟨⟨x, hxm, rfl⟩, hc2, hg2⟩
      have HX2 : Hid (∀ y ∈ l ++ [x], ByteArray.size y ≤ 5000) := Lib.hid (fun y hy => by
        rcases List.mem_append.1 hy with h | h
        · exact hx.out y h
        · simp at h; subst h; have := any1_le hxm; omega)
      have HC2 := Lib.hid hc2
      have HL2 := Lib.hid (hl.out.kept hg2)
      have hsz : w.heap.size + 1 ≤ w2.heap.size := by have := HC2.out.lt; omega
      clear hc2 hg2 hxm hx hl hcu
      go_wp2_with (at_builtin; refine wpList_append_own _ rfl _ _ 34 rfl (w.heap.size + 1) 9 i0 (.string ByteArray.empty) 1 16 Tryd.underlying34 hi hz0 hz1 hz2 rfl (by decide) _ _ _ rfl (HL2.out.1.alloc _) ⟨w2.heap.size, 0, none⟩ 1 1 [.string x] rfl rfl ?c1 ?c2 ?c3 ?c4 ?c5 ?_)
      case c1 =>
        intro j u hj
        match j, hj with
        | 0, hj => simp at hj; subst hj; simp [Addr.add]
      case c2 => intro u hu; simp at hu; subst hu; rfl
      case c3 => unfold maxLen; omega
      case c4 => omega
      case c5 => simp; omega
      intro v' w3 hown' hgrow hnil
      obtain ⟨R1, R2⟩ := Lst.append HL2.out HC2.out hown' hgrow
      have hshape := R1.2
      have H1 := Lib.hid R1
      have H2 := Lib.hid (R2.mono (show 2 + 2 * k + 2 ≤ 2 + 2 * (k + 1) by omega))
      clear hown' hgrow hnil R1 R2
      go_wp2
      go_roundw
      case rel => exact ⟨k + 1, l ++ [x], by omega, by go_num, by simp; omega, hshape, HX2, H1, H2⟩
      case measure => simp [intOf]; omega
    · have HCU : Hid (Cur w wr w.heap.size (.slice ao n c) 10) := Lib.hid (hcu.out.mono (by omega))
      have hl3 : l.length ≤ 3 := by omega
      clear hcu
      go_wp2_with fail
      refine (HB wr 10 (by omega) HCU.out).out.mono ?_
      rintro e w2 ⟨⟨b, rfl⟩, hc2, hg2⟩
      have HC2 := Lib.hid hc2
      have HL2 := Lib.hid (hl.out.kept hg2)
      clear hc2 hg2 hl HCU
      cases b
      · go_wp2_with fail
        refine (HL w2 12 (by omega) HC2.out).out.mono ?_
        rintro e w3 ⟨⟨y, hy, rfl⟩, hc3, hg3⟩
        have HY : Hid (y.size ≤ 10) := Lib.hid (by
          have : ∀ z ∈ joinSigns, z.size ≤ 10 := by decide
          exact this y hy)
        have HC3 := Lib.hid hc3
        have HL3 := Lib.hid (HL2.out.kept hg3)
        clear hc3 hg3 hy
        go_wp2_with fail
        go_ret2
        exact ⟨⟨_, l, y, rfl, by omega, hx.out, HY.out, HL3.out⟩, HC3.out.2.1⟩
      · go_wp2_with fail
        refine (HP w2 12 20 (by omega) (by omega) (by omega) HC2.out).out.mono ?_
        rintro e w3 ⟨⟨r, hr, rfl⟩, hc3, hg3⟩
        have HC3 := Lib.hid hc3
        have HL3 := Lib.hid (HL2.out.kept hg3)
        clear hc3 hg3
        obtain ⟨K, hK⟩ : ∃ K : Nat, K = 3990 + r := ⟨_, rfl⟩
        have HK := Lib.hid hK
        have hK2 : K ≤ 4020 := by omega
        clear hK
        have hsz3 : w.heap.size + 1 ≤ w3.heap.size := by have := HC3.out.lt; omega
        go_wp2_with (first
          | (at_make; refine wpList_make_full _ rfl _ _ 22 rfl w3.heap.size 5 j0 (.int .u8 0) 1 Tryd.underlying22 hj hy0 hy1 _ _ _ _ K rfl rfl (by have := HK.out; omega) (by have := HK.out; omega) (by rw [hy2]; omega) (by unfold maxLen; omega) (Nat.le_refl _) ?_; intro w4 hown4 hg4; obtain ⟨z, hz, hcv⟩ := conv_zeros' hown4; have HL4 := Lib.hid (HL3.out.keptNone hg4); have HC4 := Lib.hid (HC3.out.grown hg4 (fun k hk => by cases hk) (by simp)); have hsz4 : w.heap.size + 1 ≤ w4.heap.size := (by have := hg4.size; omega); clear hown4 hg4)
          | (at_builtin; refine wpList_append_own _ rfl _ _ 34 rfl (w.heap.size + 1) 9 i0 (.string ByteArray.empty) 1 16 Tryd.underlying34 hi hz0 hz1 hz2 rfl (by decide) _ _ _ rfl (HL4.out.1.alloc _) ⟨w4.heap.size, 0, none⟩ 1 1 [.string z] rfl rfl ?d1 ?d2 ?d3 ?d4 ?d5 ?_))
        case d1 =>
          intro j u hj
          match j, hj with
          | 0, hj => simp at hj; subst hj; simp [Addr.add]
        case d2 => intro u hu; simp at hu; subst hu; rfl
        case d3 => unfold maxLen; omega
        case d4 => omega
        case d5 => simp; omega
        intro v' w5 hown' hgrow hnil
        obtain ⟨R1, R2⟩ := Lst.append HL4.out HC4.out hown' hgrow
        have HX5 : Hid (∀ y ∈ l ++ [z], ByteArray.size y ≤ 5000) := Lib.hid (fun y hy => by
          rcases List.mem_append.1 hy with h | h
          · exact hx.out y h
          · simp at h; subst h; omega)
        obtain ⟨g', d', hv'⟩ := R1.2
        subst hv'
        have H1 := Lib.hid R1
        have H2 := Lib.hid R2
        clear hown' hgrow hnil R1 R2 hcv
        go_wp2_with fail
        refine (HL w5 14 (by omega) H2.out).out.mono ?_
        rintro e w6 ⟨⟨y, hy, rfl⟩, hc6, hg6⟩
        have HY : Hid (y.size ≤ 10) := Lib.hid (by
          have : ∀ z ∈ joinSigns, z.size ≤ 10 := by decide
          exact this y hy)
        have HC6 := Lib.hid hc6
        have HL6 : Hid (Lst w w6 (.slice (some ⟨g', 0, none⟩) (l.length + 1) d') (l ++ [z])) := Lib.hid (by
          have h6 := H1.out.kept hg6
          rw [show (l ++ [z]).length = l.length + 1 from by simp] at h6
          exact h6)
        clear hc6 hg6 hy
        go_wp2_with fail
        go_ret2
        exact ⟨⟨_, l ++ [z], y, rfl, by simp; omega, HX5.out, HY.out, HL6.out⟩, HC6.out.2.1⟩

end Go.Proofs.YtjildaahoclojaaDoor
