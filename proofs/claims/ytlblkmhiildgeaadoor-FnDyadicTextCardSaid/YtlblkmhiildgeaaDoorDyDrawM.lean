/- The draw of a top and a power. -/
import Derived.Test.YtlblkmhiildgeaaDoorDyAny
namespace Go.Proofs.YtlblkmhiildgeaaDoor
open Go.RowKit
set_option linter.unusedVariables false

def makL (r : Int) : List Int := [0, 12, -8, 7, 64000000, 1000000000, 1000000001, r]

set_option maxRecDepth 100000 in
set_option maxHeartbeats 1000000 in
theorem drawMake_calls (ao : Option Addr) (n c : Nat) (w : World) (hc : CodeIn w (.slice ao n c) n) (hn : n ≤ 1000000) :
    Calls Tryd.prog 31 #[.slice ao n c] w fun e w' => (∃ t p : Int, e = .returned (.tuple #[.int .i64 t, .int .i64 p])) ∧ Below w.heap.size w w' := by
  have HC := Lib.hid (cur_new w (.slice ao n c))
  have HP : ∀ (W : World) (N m : Nat), N ≤ 50 → 1 ≤ m → m ≤ 10000 → Cur w W w.heap.size (.slice ao n c) N → Hid (Calls Tryd.prog 65 #[.pointer (some ⟨w.heap.size, 0, none⟩), .int .i64 m] W fun e w' => (∃ r : Nat, r < m ∧ e = .returned (.int .i64 r)) ∧ Cur w w' w.heap.size (.slice ao n c) (N + 2) ∧ W.grownBy w' (some w.heap.size)) := fun W N m hN h1 h2 hW => Lib.hid (pick_calls w W w.heap.size n N m (.slice ao n c) hc hn hW (by omega) h1 (by omega))
  have HL : ∀ (W : World) (r : Int), Cur w W w.heap.size (.slice ao n c) 2 → Hid (Calls Tryd.prog 50 #[.pointer (some ⟨w.heap.size, 0, none⟩), .slice (some ⟨W.heap.size, 0, none⟩) 8 8] (W.alloc (.cells ((makL r).map (Value.int .i64)).toArray 3)) fun e w' => (∃ x ∈ makL r, e = .returned (.int .i64 x)) ∧ Cur w w' w.heap.size (.slice ao n c) (2 + 2) ∧ W.grownBy w' (some w.heap.size)) := fun W r hW => Lib.hid (among_lit w W w.heap.size n 2 (.slice ao n c) (makL r) _ rfl 8 rfl hc hn hW (by omega) (by simp [makL]) (by simp [makL]))
  clear hc hn
  go_enter Tryd.func31, Tryd.ntmps31
  go_wp2_with fail
  refine (HP _ 0 5000 (by omega) (by omega) (by omega) HC.out).out.mono ?_
  rintro e w1 ⟨⟨r, hr, rfl⟩, hc1, hg1⟩
  have HC1 := Lib.hid hc1
  clear hc1 hg1
  go_wp2_with fail
  refine (HL w1 ((r : Int) - 2500) HC1.out).out.mono ?_
  rintro e w2 ⟨⟨x, hx, rfl⟩, hc2, hg2⟩
  have HC2 := Lib.hid hc2
  clear hc2 hg2 hx HC1
  go_wp2_with fail
  refine (HP _ 4 19 (by omega) (by omega) (by omega) HC2.out).out.mono ?_
  rintro e w3 ⟨⟨k, hk, rfl⟩, hc3, hg3⟩
  have HC3 := Lib.hid hc3
  clear hc3 hg3 HC2
  go_wp2_with fail
  go_ret2
  exact ⟨⟨x, (k : Int) - 1, rfl⟩, HC3.out.2.1⟩

end Go.Proofs.YtlblkmhiildgeaaDoor
