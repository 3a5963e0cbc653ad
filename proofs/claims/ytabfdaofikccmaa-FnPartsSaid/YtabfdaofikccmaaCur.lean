/- The cursor of the draws: it reads bytes of a code, and goes on by a sequence behind its end. -/
import Derived.Test.YtabfdaofikccmaaRows
import Derived.Test.YtabfdaofikccmaaMath
import Derived.WalkKit
import Derived.Lib.Hide
import Derived.WalkLawsBesides
import Derived.WalkSpells
import Derived.Outline
import Derived.Deep.QuietTactic
import Derived.BigQuiet
namespace Go.Proofs.Ytabfdaofikccmaa
open Go.RowKit
/-- a slice of n bytes -/
def CodeIn (w : World) (v : Value) (n : Nat) : Prop :=
  (∃ ao c, v = .slice ao 0 c ∧ n = 0) ∨ (∃ b off c, v = .slice (some ⟨b, off, none⟩) n c ∧ 0 < n ∧ ∀ j, j < n → ∃ x : Nat, x < 256 ∧ w.cell? ⟨b, off + j, none⟩ = some (.int .u8 x))
/-- block q is a cursor over v, at place a -/
def CurIs (w : World) (q : Nat) (v : Value) (a : Nat) : Prop := ∃ s : Int, w.heap[q]? = some (.cells #[v, .int .i64 a, .int .u64 s] 52 (0, 0))
theorem CodeIn.below {w w' : World} {v : Value} {n : Nat} (h : CodeIn w v n) (hb : Below w.heap.size w w') : CodeIn w' v n := by
  rcases h with h | ⟨b, off, c, h1, h2, h3⟩
  · exact Or.inl h
  · refine Or.inr ⟨b, off, c, h1, h2, fun j hj => ?_⟩
    obtain ⟨x, hx, hc⟩ := h3 j hj
    have hlt : b < w.heap.size := by
      rcases Nat.lt_or_ge b w.heap.size with h4 | h4
      · exact h4
      · have h5 : w.heap[b]? = none := Array.getElem?_eq_none h4
        simp [World.cell?, h5] at hc
    exact ⟨x, hx, (hb.cell (p := ⟨b, off + j, none⟩) hlt).trans hc⟩
theorem cell_of_block {w : World} {q : Nat} {cs : Array Value} {t : TypeId} {fr : Nat × Nat} (h : w.heap[q]? = some (.cells cs t fr)) (j : Nat) : w.cell? ⟨q, j, none⟩ = cs[j]? := by
  simp [World.cell?, h]
theorem free_of_block {w : World} {q : Nat} {cs : Array Value} {t : TypeId} (h : w.heap[q]? = some (.cells cs t (0, 0))) (j : Nat) : w.frozen? ⟨q, j, none⟩ = false := by
  simp [World.frozen?, h]
theorem and255 (y : Int) : ∃ r : Nat, r < 256 ∧ wrap64 (bits .and .u64 y 255) = (r : Int) := by
  have hb : (BitVec.ofInt 64 255).toNat = 255 := by decide
  have h : (BitVec.ofInt 64 y &&& BitVec.ofInt 64 255).toNat ≤ 255 := by
    rw [BitVec.toNat_and, hb]
    exact Nat.and_le_right
  refine ⟨(BitVec.ofInt 64 y &&& BitVec.ofInt 64 255).toNat, by omega, ?_⟩
  show wrap64 (IntKind.u64.wrap ((BitVec.ofInt 64 y &&& BitVec.ofInt 64 255).toNat : Int)) = _
  generalize (BitVec.ofInt 64 y &&& BitVec.ofInt 64 255).toNat = r at h
  rw [IntWalk.u64_in _ (by omega), IntWalk.wrap64_in _ (by omega)]
theorem cur_end {w : World} {q : Nat} {v : Value} {a : Nat} {s : Int} (hq : w.heap[q]? = some (.cells #[v, .int .i64 a, .int .u64 s] 52 (0, 0))) (m n : Nat) (s' : Int) :
    CurIs ((((w.drewN m).setCell ⟨q, 1, none⟩ (.int .i64 ((a : Int) + 1))).setCell ⟨q, 2, none⟩ (.int .u64 s')).drewN n) q v (a + 1) ∧ w.grownBy ((((w.drewN m).setCell ⟨q, 1, none⟩ (.int .i64 ((a : Int) + 1))).setCell ⟨q, 2, none⟩ (.int .u64 s')).drewN n) (some q) := by
  have h1 := heap_setCell_same (w.drewN m) q 1 #[v, .int .i64 a, .int .u64 s] 52 (.int .i64 ((a : Int) + 1)) hq
  have h2 := heap_setCell_same ((w.drewN m).setCell ⟨q, 1, none⟩ (.int .i64 ((a : Int) + 1))) q 2 _ 52 (.int .u64 s') h1
  constructor
  · exact ⟨s', h2⟩
  · refine ⟨rfl, rfl, rfl, ?_, fun k _ hk => ?_⟩
    · show w.heap.size ≤ (((w.drewN m).setCell ⟨q, 1, none⟩ (.int .i64 ((a : Int) + 1))).setCell ⟨q, 2, none⟩ (.int .u64 s')).heap.size
      have e1 : (((w.drewN m).setCell ⟨q, 1, none⟩ (.int .i64 ((a : Int) + 1))).setCell ⟨q, 2, none⟩ (.int .u64 s')).heap.size = w.heap.size := by simp
      omega
    · have hne : k ≠ q := fun e => hk (by rw [e])
      exact (heap_setCell_other _ ⟨q, 2, none⟩ k _ (fun e => hne e)).trans (heap_setCell_other (w.drewN m) ⟨q, 1, none⟩ k _ (fun e => hne e))
set_option maxHeartbeats 1000000 in
theorem next_in (q b off c n a x : Nat) (s : Int) (w : World) (ha : a < n) (hn : n ≤ 1000000) (hx : x < 256) (hc : w.cell? ⟨b, off + a, none⟩ = some (.int .u8 x)) (hq : w.heap[q]? = some (.cells #[.slice (some ⟨b, off, none⟩) n c, .int .i64 a, .int .u64 s] 52 (0, 0))) :
    Calls Try.prog 60 #[.pointer (some ⟨q, 0, none⟩)] w fun e w' => (∃ r : Nat, r < 256 ∧ e = .returned (.int .i64 r)) ∧ CurIs w' q (.slice (some ⟨b, off, none⟩) n c) (a + 1) ∧ w.grownBy w' (some q) := by
  have c0 := cell_of_block hq 0
  have c1 := cell_of_block hq 1
  have c2 := cell_of_block hq 2
  have f1 := free_of_block hq 1
  have f2 := free_of_block hq 2
  simp at c0 c1 c2
  have HQ := Lib.hid hq
  clear hq
  go_enter Try.func60, Try.ntmps60
  go_wp2
  go_quiet (fail)
  go_wp2
  have b0 : (0 : Int) ≤ a := by omega
  have b1 : (a : Int) < n := by omega
  go_quiet (fail)
  go_wp2
  go_quiet (fail)
  go_wp2
  go_ret
  exact ⟨⟨x, hx, rfl⟩, cur_end HQ.out _ _ _⟩
set_option maxHeartbeats 1000000 in
theorem next_out (q a : Nat) (ao : Option Addr) (n c : Nat) (s : Int) (w : World) (ha : n ≤ a) (hm : a ≤ 1000000) (hq : w.heap[q]? = some (.cells #[.slice ao n c, .int .i64 a, .int .u64 s] 52 (0, 0))) :
    Calls Try.prog 60 #[.pointer (some ⟨q, 0, none⟩)] w fun e w' => (∃ r : Nat, r < 256 ∧ e = .returned (.int .i64 r)) ∧ CurIs w' q (.slice ao n c) (a + 1) ∧ w.grownBy w' (some q) := by
  have c0 := cell_of_block hq 0
  have c1 := cell_of_block hq 1
  have c2 := cell_of_block hq 2
  have f1 := free_of_block hq 1
  have f2 := free_of_block hq 2
  simp at c0 c1 c2
  have HQ := Lib.hid hq
  clear hq
  have b0 : (0 : Int) ≤ a := by omega
  have b1 : ¬ (a : Int) < n := by omega
  have b2 : ¬ (a : Int) + 1 ≤ n := by omega
  go_enter Try.func60, Try.ntmps60
  go_wp2
  go_quiet (fail)
  go_wp2
  go_quiet (fail)
  go_wp2
  go_ret
  obtain ⟨r, hr, hr2⟩ := and255 (IntKind.u64.wrap (IntKind.u64.wrap (IntKind.u64.wrap (s * 6364136223846793005)) + 868868) / 1099511627776)
  exact ⟨⟨r, hr, ret_int hr2⟩, cur_end HQ.out _ _ _⟩

end Go.Proofs.Ytabfdaofikccmaa
