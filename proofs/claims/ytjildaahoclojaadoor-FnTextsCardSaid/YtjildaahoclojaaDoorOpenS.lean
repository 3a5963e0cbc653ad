/- spec.OpenText. -/
import Derived.Test.YtjildaahoclojaaDoorOpenMath
import Derived.Test.YtjildaahoclojaaDoorSplitS
import Derived.Test.YtjildaahoclojaaDoorSealS
namespace Go.Proofs.YtjildaahoclojaaDoor
open Go.RowKit

theorem str_eq {a b : ByteArray} (h : a = b) : (a.toList == b.toList) = true := by subst h; simp
theorem str_ne {a b : ByteArray} (h : ¬ a = b) : (a.toList == b.toList) = false := by
  rw [beq_eq_false_iff_ne]
  intro e
  rw [Lib.toList_data, Lib.toList_data] at e
  exact h (ByteArray.ext (Array.toList_inj.mp e))

set_option maxHeartbeats 400000 in
theorem openS_big (s : ByteArray) (w : World) (hs : s.size ≤ maxLen) (h : 4000 < s.size) :
    Calls Tryd.prog 22 #[.string s] w fun e w' => e = .returned (.tuple #[.string ⟨#[]⟩, .bool false]) ∧ Below w.heap.size w w' := by
  unfold maxLen at hs
  go_enter Tryd.func22, Tryd.ntmps22
  go_wp2_with fail
  go_ret2
  exact ⟨rfl, Below.refl _ _⟩

theorem split35 (s : ByteArray) (w : World) (h : s.size ≤ 4000) :
    Calls Tryd.prog 50 #[.string s, .int .u8 35] w fun e w' => ∃ v, e = .returned v ∧ OwnsStrs w' w.heap.size v (spAll s 35) ∧ (∃ a n c, v = .slice (some a) n c) ∧ Below w.heap.size w w' :=
  l1Split_calls s 35 w (by omega)

/-- the first part lies at the head of what the split answers -/
theorem split_head {w : World} {base : Nat} {v : Value} {s : ByteArray} {b : UInt8} (h : OwnsStrs w base v (spAll s b)) :
    ∃ g n c, v = .slice (some ⟨g, 0, none⟩) n c ∧ 0 < n ∧ w.cell? ⟨g, 0, none⟩ = some (.string ⟨(preL s.data.toList b).toArray⟩) := by
  have hl : 0 < (spAll s b).length := by simp [spAll]
  obtain ⟨g, c, rfl⟩ := ownsStrs_shape h hl
  refine ⟨g, _, c, rfl, hl, ?_⟩
  have h2 := World.ownsRow.cellAt h 0 (by omega)
  rw [h2, List.getElem?_map, spAll_head]
  rfl

set_option maxHeartbeats 400000 in
theorem openS_at (s p q : ByteArray) (w : World) (h : s.size ≤ 4000) (hp : p = ⟨(preL s.data.toList 35).toArray⟩) (hq : q = ⟨(sealL p.data.toList).toArray⟩) (v : Bool) (hv : (q.toList == s.toList) = v) :
    Calls Tryd.prog 22 #[.string s] w fun e w' => e = .returned (.tuple #[.string (if v then p else ⟨#[]⟩), .bool v]) ∧ Below w.heap.size w w' := by
  have hps : p.size ≤ 1000000 := by
    have := preL_le s.data.toList 35
    have h1 : s.data.toList.length = s.size := by simp
    have h2 : p.size = (preL s.data.toList 35).length := by rw [hp]; exact List.size_toArray
    omega
  have hseal : ∀ W : World, Hid (Calls Tryd.prog 48 #[.string p] W fun e w' => e = .returned (.string q) ∧ ∃ m, w' = W.drewN m) := fun W => by
    rw [hq]
    exact Lib.hid (l1Seal_calls p W hps)
  have HP := Lib.hid hp
  clear hp hq hps
  cases v
  · go_enter Tryd.func22, Tryd.ntmps22
    go_wp2_with fail
    refine (split35 s w h).mono ?_
    rintro e w1 ⟨x, rfl, hown, hsh, hb⟩
    obtain ⟨g, n, c, rfl, hn, hcell⟩ := split_head hown
    rw [← HP.out] at hcell
    have HB := Lib.hid hb
    clear hown hsh hb
    go_wp2_with (go_at_call 48; refine (hseal _).out.mono ?_; rintro e w' ⟨rfl, m, rfl⟩)
    go_ret2
    exact ⟨rfl, ⟨HB.out.os, HB.out.tape, HB.out.output, HB.out.size, HB.out.block⟩⟩
  · go_enter Tryd.func22, Tryd.ntmps22
    go_wp2_with fail
    refine (split35 s w h).mono ?_
    rintro e w1 ⟨x, rfl, hown, hsh, hb⟩
    obtain ⟨g, n, c, rfl, hn, hcell⟩ := split_head hown
    rw [← HP.out] at hcell
    have HB := Lib.hid hb
    clear hown hsh hb
    go_wp2_with (go_at_call 48; refine (hseal _).out.mono ?_; rintro e w' ⟨rfl, m, rfl⟩)
    go_ret2
    exact ⟨rfl, ⟨HB.out.os, HB.out.tape, HB.out.output, HB.out.size, HB.out.block⟩⟩

end Go.Proofs.YtjildaahoclojaaDoor
