/- spec.l1Split answers the parts of a text, in new memory. -/
import Derived.Test.YtlblkmhiildgeaaDoorRows
import Derived.Test.YtlblkmhiildgeaaDoorSplitMath
import Derived.WalkKit
import Derived.Lib.Hide
import Derived.WalkLawsBesides
import Derived.WalkSpells
import Derived.Outline
namespace Go.Proofs.YtlblkmhiildgeaaDoor
open Go.RowKit

theorem byte_eq {a b : UInt8} (h : a = b) : ((a.toNat : Int) == (b.toNat : Int)) = true := by subst h; simp
theorem byte_ne {a b : UInt8} (h : ¬ a = b) : ((a.toNat : Int) == (b.toNat : Int)) = false := by
  rw [beq_eq_false_iff_ne]
  intro e
  exact h (UInt8.toNat_inj.1 (by omega))

theorem infoStr : (Tryd.prog.info? 9).map (fun i => (i.zero, i.size, i.bytes)) = some (some (.string ByteArray.empty), 1, 16) := by kernel_rfl

/-- the parts lie, as strings, in memory of the call's own -/
def OwnsStrs (w : World) (base : Nat) (v : Value) (l : List ByteArray) : Prop := w.ownsRow base 9 1 v l.length (l.map Value.string)

theorem ownsStrs_shape {w : World} {base : Nat} {v : Value} {l : List ByteArray} (h : OwnsStrs w base v l) (hl : 0 < l.length) : ∃ g c, v = .slice (some ⟨g, 0, none⟩) l.length c := by
  rcases h.2 with ⟨_, h0⟩ | ⟨g, cap, _, hv, _⟩
  · omega
  · exact ⟨g, cap, hv⟩

theorem splitRel_hit {s : ByteArray} {b : UInt8} {k : Nat} {w wr w1 : World} {v v' : Value} {o : Obj} (h : k < s.size) (e : s[k] = b) (hb : Below w.heap.size w wr)
    (hown : OwnsStrs wr w.heap.size v (spSt s b k).1)
    (hown' : w1.ownsRow w.heap.size 9 1 v' ((spSt s b k).1.length + 1) ((spSt s b k).1.map Value.string ++ [.string (s.extract (spSt s b k).2 k)]))
    (hg : (wr.alloc o).grownBy w1 v.ownBlock) :
    OwnsStrs w1 w.heap.size v' (spSt s b (k + 1)).1 ∧ (spSt s b (k + 1)).2 = k + 1 ∧ Below w.heap.size w w1 := by
  refine ⟨?_, ?_, ?_⟩
  · unfold OwnsStrs
    rw [spSt_hit s b k h e]
    simpa using hown'
  · rw [spSt_hit s b k h e]
  · exact (hb.alloc hb.size _).grown hg (by simp; have := hb.size; omega) (fun q hq => (World.ownsRow.lt hown q hq).1)

set_option maxHeartbeats 1000000 in
theorem l1Split_calls (s : ByteArray) (b : UInt8) (w : World) (hs : s.size ≤ 1048576) :
    Calls Tryd.prog 62 #[.string s, .int .u8 b.toNat] w fun e w' => ∃ v, e = .returned v ∧ OwnsStrs w' w.heap.size v (spAll s b) ∧ (∃ a n c, v = .slice (some a) n c) ∧ Below w.heap.size w w' := by
  obtain ⟨i0, hi, hz0, hz1, hz2⟩ := info_parts infoStr
  go_enter Tryd.func62, Tryd.ntmps62
  go_wp2
  go_loopw [5, 6, 7] (fun v f i wr => ∃ k : Nat, k ≤ s.size ∧ i = .int .i64 k ∧ f = .int .i64 ((spSt s b k).2 : Nat) ∧ (∃ a n c, v = .slice (some a) n c) ∧ OwnsStrs wr w.heap.size v (spSt s b k).1 ∧ Below w.heap.size w wr) (fun _ _ i _ => s.size - (intOf i).toNat)
  case atStart => exact ⟨0, Nat.zero_le _, rfl, rfl, ⟨_, _, _, rfl⟩, World.ownsRow_lit w #[] 0 (Nat.le_refl _) (by unfold maxLen; omega) rfl, (Below.refl _ _).alloc (Nat.le_refl _) _⟩
  case round =>
    obtain ⟨k, hk, rfl, rfl, ⟨a, n, c, rfl⟩, hown, hnx⟩ := hrel
    obtain ⟨hf1, hf2⟩ := spSt_le s b k
    have hsz := hnx.size
    have HO := Lib.hid hown
    have HN := Lib.hid hnx
    clear hown hnx
    by_cases hlt : k < s.size
    · by_cases hb : s[k] = b
      · have HB := Lib.hid hb
        have he := byte_eq hb
        clear hb
        go_wp2_with (at_builtin; refine wpList_append_own _ rfl _ _ 71 rfl w.heap.size 9 i0 (.string ByteArray.empty) 1 16 Tryd.underlying71 hi hz0 hz1 hz2 rfl (by decide) _ _ _ rfl (HO.out.alloc _) ⟨wr.heap.size, 0, none⟩ 1 1 [.string (s.extract (spSt s b k).2 k)] rfl rfl ?c1 ?c2 ?c3 ?c4 ?c5 ?_)
        case c1 =>
          intro j u hj
          match j, hj with
          | 0, hj => simp at hj; subst hj; simp [Addr.add]
        case c2 => intro u hu; simp at hu; subst hu; rfl
        case c3 => unfold maxLen; omega
        case c4 => omega
        case c5 => simp; omega
        intro v' w1 hown' hgrow hnil
        have R := splitRel_hit hlt HB.out HN.out HO.out hown' hgrow
        obtain ⟨R1, R2, R3⟩ := R
        have hshape : ∃ a n c, v' = .slice (some a) n c := by
          obtain ⟨g, c, hv⟩ := ownsStrs_shape R1 (by rw [spSt_hit s b k hlt HB.out]; simp)
          exact ⟨_, _, _, hv⟩
        have H2 := Lib.hid R2
        have H3 := Lib.hid R3
        have H1 := Lib.hid R1
        clear hown' hgrow hnil R1 R2 R3
        go_wp2
        go_roundw
        case rel => exact ⟨k + 1, by omega, by go_num, by rw [H2.out]; go_num, hshape, H1.out, H3.out⟩
        case measure => simp [intOf]; omega
      · have hm := spSt_miss s b k hlt hb
        have HM := Lib.hid hm
        have he := byte_ne hb
        clear hb hm
        go_wp2
        go_roundw
        case rel => exact ⟨k + 1, by omega, by go_num, by rw [HM.out], ⟨_, _, _, rfl⟩, by rw [HM.out]; exact HO.out, HN.out⟩
        case measure => simp [intOf]; omega
    · have hk2 : k = s.size := by omega
      subst hk2
      go_wp2_with (at_builtin; refine wpList_append_own _ rfl _ _ 71 rfl w.heap.size 9 i0 (.string ByteArray.empty) 1 16 Tryd.underlying71 hi hz0 hz1 hz2 rfl (by decide) _ _ _ rfl (HO.out.alloc _) ⟨wr.heap.size, 0, none⟩ 1 1 [.string (s.extract (spSt s b s.size).2 s.size)] rfl rfl ?d1 ?d2 ?d3 ?d4 ?d5 ?_)
      case d1 =>
        intro j u hj
        match j, hj with
        | 0, hj => simp at hj; subst hj; simp [Addr.add]
      case d2 => intro u hu; simp at hu; subst hu; rfl
      case d3 => unfold maxLen; omega
      case d4 => omega
      case d5 => simp; omega
      intro v' w1 hown' hgrow hnil
      have R1 : OwnsStrs w1 w.heap.size v' (spAll s b) := by
        unfold OwnsStrs spAll
        simpa using hown'
      have R3 : Below w.heap.size w w1 := (HN.out.alloc hsz _).grown hgrow (by simp; omega) (fun q hq => (World.ownsRow.lt HO.out q hq).1)
      have hshape : ∃ a n c, v' = .slice (some a) n c := by
        obtain ⟨g, c, hv⟩ := ownsStrs_shape R1 (by simp [spAll])
        exact ⟨_, _, _, hv⟩
      have H1 := Lib.hid R1
      have H3 := Lib.hid R3
      clear hown' hgrow hnil R1 R3
      go_wp2
      go_ret
      exact ⟨_, rfl, H1.out, hshape, H3.out⟩

end Go.Proofs.YtlblkmhiildgeaaDoor
