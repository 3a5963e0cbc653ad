/- The draws of chapter 1 that give texts. -/
import Derived.Test.YtjildaahoclojaaDoorPick
namespace Go.Proofs.YtjildaahoclojaaDoor
open Go.RowKit

/-- the cursor that a draw makes -/
theorem cur_new (w : World) (v : Value) : Cur w (w.alloc (.cells #[v, .int .i64 0, .int .u64 0] 48)) w.heap.size v 0 :=
  ⟨Nat.le_refl _, (Below.refl _ _).alloc (Nat.le_refl _) _, 0, Nat.le_refl _, 0, heap_alloc_new w _⟩

theorem any1_le {x : ByteArray} (h : x ∈ any1L) : x.size ≤ 10 := by
  have : ∀ y ∈ any1L, y.size ≤ 10 := by decide
  exact this x h

def splitSigns : List ByteArray := [⟨#[44]⟩, ⟨#[44]⟩, ⟨#[32]⟩, ⟨#[]⟩, ⟨#[44, 44]⟩]

set_option maxHeartbeats 400000 in
theorem drawSplitText_calls (ao : Option Addr) (n c : Nat) (w : World) (hc : CodeIn w (.slice ao n c) n) (hn : n ≤ 1000000) :
    Calls Tryd.prog 23 #[.slice ao n c] w fun e w' => (∃ x y : ByteArray, x.size ≤ 10 ∧ y.size ≤ 10 ∧ e = .returned (.tuple #[.string x, .string y])) ∧ Below w.heap.size w w' := by
  have HC := Lib.hid (cur_new w (.slice ao n c))
  have HA : ∀ W, Cur w W w.heap.size (.slice ao n c) 0 → Hid (Calls Tryd.prog 44 #[.pointer (some ⟨w.heap.size, 0, none⟩)] W fun e w' => (∃ x ∈ any1L, e = .returned (.string x)) ∧ Cur w w' w.heap.size (.slice ao n c) (0 + 2) ∧ W.grownBy w' (some w.heap.size)) := fun W hW => Lib.hid (any1_calls w W w.heap.size n 0 (.slice ao n c) hc hn hW (by omega))
  have HL : ∀ W, Cur w W w.heap.size (.slice ao n c) 2 → Hid (Calls Tryd.prog 41 #[.pointer (some ⟨w.heap.size, 0, none⟩), .slice (some ⟨W.heap.size, 0, none⟩) 5 5] (W.alloc (.cells (splitSigns.map Value.string).toArray 9)) fun e w' => (∃ x ∈ splitSigns, e = .returned (.string x)) ∧ Cur w w' w.heap.size (.slice ao n c) (2 + 2) ∧ W.grownBy w' (some w.heap.size)) := fun W hW => Lib.hid (of_lit w W w.heap.size n 2 (.slice ao n c) splitSigns _ rfl 5 rfl hc hn hW (by omega) (by decide) (by decide))
  clear hc hn
  go_enter Tryd.func23, Tryd.ntmps23
  go_wp2_with fail
  refine (HA _ HC.out).out.mono ?_
  rintro e w1 ⟨⟨x, hx, rfl⟩, hc1, hg1⟩
  have HC1 := Lib.hid hc1
  have HX := Lib.hid (any1_le hx)
  clear hc1 hg1 hx
  go_wp2_with fail
  refine (HL _ HC1.out).out.mono ?_
  rintro e w2 ⟨⟨y, hy, rfl⟩, hc2, hg2⟩
  have HC2 := Lib.hid hc2
  have HY : Hid (y.size ≤ 10) := Lib.hid (by
    have : ∀ z ∈ splitSigns, z.size ≤ 10 := by decide
    exact this y hy)
  clear hc2 hg2 hy
  go_wp2_with fail
  go_ret2
  exact ⟨⟨x, y, HX.out, HY.out, rfl⟩, HC2.out.2.1⟩

set_option maxHeartbeats 400000 in
theorem drawLessText_calls (ao : Option Addr) (n c : Nat) (w : World) (hc : CodeIn w (.slice ao n c) n) (hn : n ≤ 1000000) :
    Calls Tryd.prog 28 #[.slice ao n c] w fun e w' => (∃ x y : ByteArray, x.size ≤ 10 ∧ y.size ≤ 10 ∧ e = .returned (.tuple #[.string x, .string y])) ∧ Below w.heap.size w w' := by
  have HC := Lib.hid (cur_new w (.slice ao n c))
  have HA : ∀ W N, N ≤ 10 → Cur w W w.heap.size (.slice ao n c) N → Hid (Calls Tryd.prog 44 #[.pointer (some ⟨w.heap.size, 0, none⟩)] W fun e w' => (∃ x ∈ any1L, e = .returned (.string x)) ∧ Cur w w' w.heap.size (.slice ao n c) (N + 2) ∧ W.grownBy w' (some w.heap.size)) := fun W N hN hW => Lib.hid (any1_calls w W w.heap.size n N (.slice ao n c) hc hn hW (by omega))
  clear hc hn
  go_enter Tryd.func28, Tryd.ntmps28
  go_wp2_with fail
  refine (HA _ 0 (by omega) HC.out).out.mono ?_
  rintro e w1 ⟨⟨x, hx, rfl⟩, hc1, hg1⟩
  have HC1 := Lib.hid hc1
  have HX := Lib.hid (any1_le hx)
  clear hc1 hg1 hx
  go_wp2_with fail
  refine (HA _ 2 (by omega) HC1.out).out.mono ?_
  rintro e w2 ⟨⟨y, hy, rfl⟩, hc2, hg2⟩
  have HC2 := Lib.hid hc2
  have HY := Lib.hid (any1_le hy)
  clear hc2 hg2 hy
  go_wp2_with fail
  go_ret2
  exact ⟨⟨x, y, HX.out, HY.out, rfl⟩, HC2.out.2.1⟩

end Go.Proofs.YtjildaahoclojaaDoor
