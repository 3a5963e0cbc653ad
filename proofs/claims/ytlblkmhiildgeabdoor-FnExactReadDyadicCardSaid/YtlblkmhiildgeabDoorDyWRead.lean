/- The walk of laws.FnExactReadDyadic. -/
import Derived.Test.YtlblkmhiildgeabDoorDyReadS
import Derived.Test.YtlblkmhiildgeabDoorDyEq
namespace Go.Proofs.YtlblkmhiildgeabDoor
open Go.RowKit
set_option linter.unusedVariables false

theorem fnExactReadDyadic_walk (s : ByteArray) (w : World) (m : Int) (hm9 : s.size ≤ maxLen) (hE : ErrVars w) (hT : PowIs w) (hm : w.cell? ⟨0, 0, none⟩ = some (.int .i64 m)) : Calls Tryd.prog 3 #[.string s] w fun e w' => e = .returned (.bool true) ∧ Below w.heap.size w w' := by
  unfold maxLen at hm9
  by_cases hs : s.size ≤ 1048576
  · obtain ⟨r, hr⟩ := reads_exists s.data.toList
    have hml : 0 < w.heap.size := World.block_lt_of_cell? w ⟨0, 0, none⟩ hm
    have HM : ∀ W, Hid (Calls Tryd.prog 4 #[.string s] W fun e w' => e = .returned (.tuple #[.agg #[.int .i64 r.1, .int .i64 r.2.1], .bool r.2.2]) ∧ Below W.heap.size W w') := fun W => Lib.hid (readS_any s r W hs hr)
    have HI : ∀ W, Below w.heap.size w W → Hid (Calls Tryd.prog 5 #[.string s] W fun e w' => e = .returned (.tuple #[.agg #[.int .i64 r.1, .int .i64 r.2.1], .bool r.2.2]) ∧ Below W.heap.size W w') := fun W hb => Lib.hid (readI_any s m r W hs hr (hE.below hb) (hT.below hb) ((hb.cell (p := ⟨0, 0, none⟩) hml).trans hm))
    have h9 : ¬ (1048576 : Int) < s.size := by omega
    clear hr hE hT hm hml
    go_enter Tryd.func3, Tryd.ntmps3
    go_wp2_with fail
    refine ((HM _).out).mono ?_
    rintro e w1 ⟨rfl, hb⟩
    obtain ⟨hc1, hf1⟩ := bcell hb
    have hz1 := hb.size
    (try simp at hz1)
    have HB1 := Lib.hid hb
    clear hb
    go_wp2_with fail
    refine ((HI _ (HB1.out.alloc HB1.out.size _)).out).mono ?_
    rintro e w2 ⟨rfl, hb⟩
    obtain ⟨hc2, hf2⟩ := bcell hb
    have hz2 := hb.size
    (try simp at hz2)
    have hy2_0 : w1.heap.size < w2.heap.size := (by omega)
    have HB2 := Lib.hid hb
    clear hb
    go_wp2_with fail
    refine (eqD_calls _ _ _).mono ?_
    rintro e w3 ⟨rfl, hb⟩
    obtain ⟨hc3, hf3⟩ := bcell hb
    have hz3 := hb.size
    (try simp at hz3)
    have hy3_0 : w1.heap.size < w3.heap.size := (by omega)
    have hy3_1 : w2.heap.size < w3.heap.size := (by omega)
    have HB3 := Lib.hid hb
    clear hb
    go_wp2_with fail
    go_ret
    refine ⟨rfl, ?_⟩
    (repeat' (first | exact Below.refl _ _ | refine Below.setCell ?_ ?_ _ | refine Below.alloc ?_ ?_ _ | refine Below.trans ?_ (HB3.out.mono ?_) | refine Below.trans ?_ (HB2.out.mono ?_) | refine Below.trans ?_ (HB1.out.mono ?_))) <;> (first | omega | (simp; done) | (simp; omega))
  · have h9 : (1048576 : Int) < s.size := by omega
    clear hE hT hm
    go_enter Tryd.func3, Tryd.ntmps3
    go_wp2_with fail
    go_ret
    exact ⟨rfl, Below.refl _ _⟩

end Go.Proofs.YtlblkmhiildgeabDoor
