/- The draw of a text to read. -/
import Derived.Test.YtlblkmhiildgeaaDoorDyDrawT
namespace Go.Proofs.YtlblkmhiildgeaaDoor
open Go.RowKit
set_option linter.unusedVariables false

def readL : List ByteArray := [⟨#[]⟩, ⟨#[45]⟩, ⟨#[45, 48]⟩, ⟨#[49, 47]⟩, ⟨#[47, 50]⟩, ⟨#[50, 47, 52]⟩, ⟨#[49, 47, 51]⟩, ⟨#[49, 47, 50, 47, 50]⟩, ⟨#[49, 47, 54, 53, 53, 51, 54]⟩, ⟨#[49, 47, 49, 51, 49, 48, 55, 50]⟩, ⟨#[49, 48, 48, 48, 48, 48, 48]⟩, ⟨#[49, 48, 48, 48, 48, 48, 49]⟩, ⟨#[48, 49]⟩, ⟨#[49, 47, 48, 50]⟩, ⟨#[45, 51, 47, 52]⟩, ⟨#[51, 47, 49]⟩]
theorem readL_le {x : ByteArray} (h : x ∈ readL) : x.size ≤ 1000 := by
  have : ∀ y ∈ readL, y.size ≤ 1000 := by decide
  exact this x h

theorem bt_pos {t : Int} {p : Nat} (h1 : -20 ≤ t) (h2 : t ≤ 20) (hp : p ≤ 5) : (bt (textD t p)).size ≤ 100 ∧ 0 < (bt (textD t p)).size := by
  refine ⟨bt_len (Nat.le_trans (textD_len t p (by omega) (by omega) (by omega)) (by omega)), ?_⟩
  have e : (bt (textD t p)).size = (textD t p).length := by simp [bt, ByteArray.size]
  rw [e]
  have h := preL_textD t p
  rcases hl : textD t p with _ | ⟨a, b⟩
  · exfalso
    rw [hl] at h
    have h3 : Lib.atoiAll (Lib.itoa t) = .ok t := atoi_itoa2 t (by omega) (by omega)
    rw [← h] at h3
    simp [preL, Lib.atoiAll] at h3
  · simp

set_option maxRecDepth 100000 in
set_option maxHeartbeats 2000000 in
theorem drawRead_calls (ao : Option Addr) (n c : Nat) (w : World) (hc : CodeIn w (.slice ao n c) n) (hn : n ≤ 1000000) :
    Calls Tryd.prog 28 #[.slice ao n c] w fun e w' => (∃ x : ByteArray, x.size ≤ 1000 ∧ e = .returned (.string x)) ∧ Below w.heap.size w w' := by
  have HC := Lib.hid (cur_new w (.slice ao n c))
  have HO : ∀ (W : World) (N : Nat), N ≤ 50 → Cur w W w.heap.size (.slice ao n c) N → Hid (Calls Tryd.prog 48 #[.pointer (some ⟨w.heap.size, 0, none⟩), .int .i64 4] W fun e w' => (∃ b : Bool, e = .returned (.bool b)) ∧ Cur w w' w.heap.size (.slice ao n c) (N + 2) ∧ W.grownBy w' (some w.heap.size)) := fun W N hN hW => Lib.hid (one_calls w W w.heap.size n N 4 (.slice ao n c) hc hn hW (by omega) (by omega) (by omega))
  have HL : ∀ (W : World), Cur w W w.heap.size (.slice ao n c) 2 → Hid (Calls Tryd.prog 57 #[.pointer (some ⟨w.heap.size, 0, none⟩), .slice (some ⟨W.heap.size, 0, none⟩) 16 16] (W.alloc (.cells (readL.map Value.string).toArray 9)) fun e w' => (∃ x ∈ readL, e = .returned (.string x)) ∧ Cur w w' w.heap.size (.slice ao n c) (2 + 2) ∧ W.grownBy w' (some w.heap.size)) := fun W hW => Lib.hid (of_lit w W w.heap.size n 2 (.slice ao n c) readL _ rfl 16 rfl hc hn hW (by omega) (by decide) (by decide))
  have HD : ∀ (W : World), Cur w W w.heap.size (.slice ao n c) 2 → Hid (Calls Tryd.prog 58 #[.pointer (some ⟨w.heap.size, 0, none⟩)] W fun e w' => (∃ (t : Int) (p : Nat), -20 ≤ t ∧ t ≤ 20 ∧ p ≤ 5 ∧ mkD t p = (t, p) ∧ e = .returned (.agg #[.int .i64 t, .int .i64 p])) ∧ Cur w w' w.heap.size (.slice ao n c) (2 + 4) ∧ W.grownBy w' (some w.heap.size)) := fun W hW => Lib.hid (dyadic_calls w W w.heap.size n 2 (.slice ao n c) hc hn hW (by omega))
  have HS : ∀ (W : World) (s : ByteArray), s.size ≤ 100 → 0 < s.size → Cur w W w.heap.size (.slice ao n c) 8 → Hid (Calls Tryd.prog 59 #[.pointer (some ⟨w.heap.size, 0, none⟩), .string s, .string ⟨#[45, 47, 48, 50]⟩] W fun e w' => (∃ x : ByteArray, x.size ≤ 1000 ∧ e = .returned (.string x)) ∧ Cur w w' w.heap.size (.slice ao n c) (8 + 6) ∧ W.grownBy w' (some w.heap.size)) := fun W s h1 h2 hW => Lib.hid (spoilt_calls w W w.heap.size n 8 (.slice ao n c) s h1 h2 hc hn hW (by omega))
  clear hc hn
  go_enter Tryd.func28, Tryd.ntmps28
  go_wp2_with fail
  refine (HO _ 0 (by omega) HC.out).out.mono ?_
  rintro e w1 ⟨⟨b, rfl⟩, hc1, hg1⟩
  have HC1 := Lib.hid hc1
  clear hc1 hg1 HC
  cases b
  · go_wp2_with fail
    refine (HD w1 HC1.out).out.mono ?_
    rintro e w2 ⟨⟨t, p, t1, t2, p1, _, rfl⟩, hc2, hg2⟩
    have HC2 := Lib.hid hc2
    have HT := Lib.hid (fun W => textS_any t p W (by omega) (by omega) (by omega))
    have HB := Lib.hid (bt_pos t1 t2 p1)
    clear hc2 hg2 HC1 t1 t2 p1
    generalize bt (textD t p) = s at HT HB
    go_wp2_with fail
    refine (HT.out w2).mono ?_
    rintro e w3 ⟨rfl, hb⟩
    have HC3 := Lib.hid (HC2.out.grown (below_grown hb) (fun k hk => by cases hk) (by simp))
    clear hb HC2
    go_wp2_with fail
    refine (HO _ 6 (by omega) HC3.out).out.mono ?_
    rintro e w4 ⟨⟨b, rfl⟩, hc4, hg4⟩
    have HC4 := Lib.hid hc4
    clear hc4 hg4 HC3
    cases b
    · go_wp2_with fail
      go_ret
      exact ⟨⟨s, by have := HB.out.1; omega, rfl⟩, HC4.out.2.1⟩
    · go_wp2_with fail
      refine (HS _ s HB.out.1 HB.out.2 HC4.out).out.mono ?_
      rintro e w5 ⟨⟨x, hx, rfl⟩, hc5, hg5⟩
      have HC5 := Lib.hid hc5
      have HX := Lib.hid hx
      clear hc5 hg5 hx
      go_wp2_with fail
      go_ret
      exact ⟨⟨x, HX.out, rfl⟩, HC5.out.2.1⟩
  · go_wp2_with fail
    refine (HL w1 HC1.out).out.mono ?_
    rintro e w2 ⟨⟨x, hx, rfl⟩, hc2, hg2⟩
    have HC2 := Lib.hid hc2
    have HX := Lib.hid (readL_le hx)
    clear hc2 hg2 hx
    go_wp2_with fail
    go_ret
    exact ⟨⟨x, HX.out, rfl⟩, HC2.out.2.1⟩

end Go.Proofs.YtlblkmhiildgeaaDoor
