/- A list of strings that came in: laws.szStringS counts it, laws.toStringS copies it. -/
import Derived.Test.YtjildaahoclojaaRows
import Derived.Test.YtjildaahoclojaaMath
import Derived.WalkKit
import Derived.Lib.Hide
import Derived.WalkLawsBesides
import Derived.WalkSpells
import Derived.Outline
namespace Go.Proofs.Ytjildaahoclojaa
open Go.RowKit

/-- a slice that reads as these strings -/
def StrsIn (w : World) (v : Value) (l : List ByteArray) : Prop :=
  (∃ ao c, v = .slice ao 0 c ∧ l = []) ∨ (∃ b off c, v = .slice (some ⟨b, off, none⟩) l.length c ∧ 0 < l.length ∧ ∀ j x, l[j]? = some x → w.cell? ⟨b, off + j, none⟩ = some (.string x))

theorem StrsIn.below {w w' : World} {v : Value} {l : List ByteArray} (h : StrsIn w v l) (hb : Below w.heap.size w w') : StrsIn w' v l := by
  rcases h with h | ⟨b, off, c, h1, h2, h3⟩
  · exact Or.inl h
  · refine Or.inr ⟨b, off, c, h1, h2, fun j x hx => ?_⟩
    have hc := h3 j x hx
    have hlt : b < w.heap.size := by
      rcases Nat.lt_or_ge b w.heap.size with h4 | h4
      · exact h4
      · have h5 : w.heap[b]? = none := Array.getElem?_eq_none h4
        simp [World.cell?, h5] at hc
    exact (hb.cell (p := ⟨b, off + j, none⟩) hlt).trans hc

/-- the bytes of a list's strings -/
def sumSz (l : List ByteArray) : Nat := (l.map ByteArray.size).sum

theorem sumSz_snoc (l : List ByteArray) (x : ByteArray) : sumSz (l ++ [x]) = sumSz l + x.size := by simp [sumSz]

theorem takeS_snoc {α : Type} (l : List α) (k : Nat) (h : k < l.length) : l.take (k + 1) = l.take k ++ [l[k]] := by
  rw [List.take_succ_eq_append_getElem h]

theorem sumSz_le (l : List ByteArray) (k : Nat) : sumSz (l.take k) ≤ sumSz l := by
  have h : sumSz l = sumSz (l.take k) + sumSz (l.drop k) := by
    unfold sumSz
    rw [← List.sum_append, ← List.map_append, List.take_append_drop]
  omega

set_option maxHeartbeats 400000 in
theorem szStringS_calls (v : Value) (l : List ByteArray) (w : World) (hv : StrsIn w v l) (hl : l.length ≤ maxLen) (hx : ∀ x ∈ l, x.size ≤ maxLen) (r : Int) (hr : r = if l.length + sumSz l ≤ 1048576 then 1048576 - ((l.length + sumSz l : Nat) : Int) else -1) :
    Calls Try.prog 6 #[v, .int .i64 1048576] w fun e w' => e = .returned (.int .i64 r) ∧ w = w' := by
  have HR := Lib.hid hr
  clear hr
  unfold maxLen at hl hx
  rcases hv with ⟨ao, c, rfl, rfl⟩ | ⟨b, off, c, rfl, hp, hc⟩
  · have HR2 : Hid (r = 1048576) := Lib.hid (by rw [HR.out]; simp [sumSz])
    clear HR hl hx
    go_enter Try.func6, Try.ntmps6
    go_wp2
    refine wp_loop_rounds 1 ?_
    rw [rounds_succ]
    go_wp2
    go_ret
    exact ⟨ret_int HR2.out.symm, rfl⟩
  · have HC := Lib.hid hc
    have HX := Lib.hid hx
    clear hc hx
    by_cases hbig : l.length ≤ 1048576
    · go_enter Try.func6, Try.ntmps6
      go_wp2
      go_loop [1, 5] (fun q i => ∃ (k : Nat) (m : Int), k ≤ l.length ∧ i = .int .i64 k ∧ q = .int .i64 m ∧ 0 ≤ m ∧ m ≤ 1048576 ∧ Hid (m = 1048576 - (l.length : Int) - (sumSz (l.take k) : Int))) (fun _ i => l.length - (intOf i).toNat)
      case atStart => exact ⟨0, _, Nat.zero_le _, rfl, rfl, by omega, by omega, Lib.hid (by simp [sumSz])⟩
      case round =>
        obtain ⟨k, m, hk, rfl, rfl, hm0, hm1, hm⟩ := hrel
        by_cases hlt : k < l.length
        · have hx := HX.out l[k] (List.getElem_mem hlt)
          have hcell := HC.out k l[k] (List.getElem?_eq_getElem hlt)
          have hs : Hid (sumSz (l.take (k + 1)) = sumSz (l.take k) + l[k].size) := by rw [takeS_snoc l k hlt, sumSz_snoc]; exact Lib.hid rfl
          generalize l[k] = x at hx hcell hs
          have b0 : (0 : Int) ≤ k := by omega
          have b1 : (k : Int) < l.length := by omega
          by_cases hneg : m - (x.size : Int) < 0
          · have HR2 : Hid (r = -1) := Lib.hid (by
              have h1 := sumSz_le l (k + 1)
              have h2 := hm.out
              have h3 := hs.out
              rw [HR.out, if_neg (by omega)])
            go_wp2
            go_ret
            exact ⟨ret_int HR2.out.symm, rfl⟩
          · go_wp2
            go_round
            case rel => exact ⟨k + 1, _, by omega, by go_num, rfl, by omega, by omega, Lib.hid (by have h2 := hm.out; have h3 := hs.out; omega)⟩
            case measure => simp [intOf]; omega
        · have HR2 : Hid (m = r) := Lib.hid (by
            have h2 := hm.out
            rw [show k = l.length from by omega, List.take_length] at h2
            rw [HR.out, if_pos (by omega)]
            omega)
          go_wp2
          go_ret
          exact ⟨ret_int HR2.out, rfl⟩
    · have HR2 : Hid (r = -1) := Lib.hid (by rw [HR.out, if_neg (by omega)])
      go_enter Try.func6, Try.ntmps6
      go_wp2
      go_ret
      exact ⟨ret_int HR2.out.symm, rfl⟩

theorem infoStrA : (Try.prog.info? 9).map (fun i => (i.zero, i.size, i.bytes)) = some (some (.string ByteArray.empty), 1, 16) := by kernel_rfl

/-- what has been copied, and empty strings -/
def copied (l : List ByteArray) (k : Nat) : List Value := (l.take k).map Value.string ++ List.replicate (l.length - k) (.string ByteArray.empty)

theorem copied_set (l : List ByteArray) (k : Nat) (h : k < l.length) : (copied l k).set k (.string l[k]) = copied l (k + 1) := by
  unfold copied
  have hl : ((l.take k).map Value.string).length = k := by simp; omega
  rw [List.set_append_right _ _ (by omega), hl, Nat.sub_self, takeS_snoc l k h, List.map_append, List.append_assoc]
  congr 1
  rw [show l.length - k = (l.length - (k + 1)) + 1 from by omega, List.replicate_succ]
  rfl

theorem copied_len (l : List ByteArray) (k : Nat) (h : k ≤ l.length) : (copied l k).length = l.length := by
  simp [copied]; omega

theorem copied_all (l : List ByteArray) : copied l l.length = l.map Value.string := by
  simp [copied]

theorem grownBy_below' {w w' : World} (h : Below w.heap.size w w') (row : Option Nat) : w.grownBy w' row := ⟨h.os, h.tape, h.output, h.size, fun k hk _ => h.block k hk⟩

theorem made_one (z : Value) (n : Nat) : (madeCells #[z] n).toList = List.replicate n z := by
  apply List.ext_getElem
  · simp [madeCells]
  · intro i h1 h2
    simp [madeCells, Nat.mod_one]

theorem copyRel {base g c k : Nat} {w wr : World} {l : List ByteArray} (hk : k < l.length) (hge : w.heap.size ≤ g)
    (hown : wr.ownsRow base 9 1 (.slice (some ⟨g, 0, none⟩) l.length c) l.length (copied l k)) (hb : Below w.heap.size w wr) :
    (wr.setCell ⟨g, k, none⟩ (.string l[k])).ownsRow base 9 1 (.slice (some ⟨g, 0, none⟩) l.length c) l.length (copied l (k + 1)) ∧ Below w.heap.size w (wr.setCell ⟨g, k, none⟩ (.string l[k])) := by
  have h2 := hown.stored k (.string l[k])
  rw [copied_set l k hk] at h2
  exact ⟨h2.1, hb.grown h2.2 hb.size (fun q hq => by simp at hq; omega)⟩

theorem copyCell {base g c k : Nat} {wr : World} {l : List ByteArray} (hk : k < l.length)
    (hown : wr.ownsRow base 9 1 (.slice (some ⟨g, 0, none⟩) l.length c) l.length (copied l k)) :
    (∃ v, wr.cell? ⟨g, k, none⟩ = some v) ∧ wr.frozen? ⟨g, k, none⟩ = false := by
  refine ⟨?_, hown.frozenAt k⟩
  have h2 := hown.cellAt k (by omega)
  have hl := copied_len l k (by omega)
  exact ⟨_, h2.trans (List.getElem?_eq_getElem (by omega))⟩

set_option maxHeartbeats 1000000 in
theorem toStringS_calls (v : Value) (l : List ByteArray) (w : World) (hv : StrsIn w v l) (hl : l.length ≤ 1048576) :
    Calls Try.prog 8 #[v] w fun e w' => ∃ g c, e = .returned (.slice (some ⟨g, 0, none⟩) l.length c) ∧ w'.ownsRow w.heap.size 9 1 (.slice (some ⟨g, 0, none⟩) l.length c) l.length (l.map Value.string) ∧ Below w.heap.size w w' := by
  obtain ⟨i0, hi, hz0, hz1, hz2⟩ := info_parts infoStrA
  rcases hv with ⟨ao, c, rfl, rfl⟩ | ⟨b, off, c, rfl, hp, hc⟩
  · go_enter Try.func8, Try.ntmps8
    go_wp2_with (at_make; refine wpList_make_full _ rfl _ _ 22 rfl w.heap.size 9 i0 (.string ByteArray.empty) 1 Try.underlying22 hi hz0 hz1 _ _ _ _ 0 rfl rfl rfl rfl (by omega) (by unfold maxLen; omega) (Nat.le_refl _) ?_; intro w1 hown hg)
    have HO : Hid (w1.ownsRow w.heap.size 9 1 (.slice (some ⟨w.heap.size, 0, none⟩) 0 0) 0 []) := by
      have e : (madeCells (Value.string ByteArray.empty).cells (0 * 1)).toList = [] := by simp [madeCells]
      rw [← e]
      exact Lib.hid hown
    have HG := Lib.hid hg
    clear hown hg
    refine wp_loop_rounds 1 ?_
    rw [rounds_succ]
    go_wp2
    go_ret
    exact ⟨_, _, rfl, HO.out, (Below.refl _ _).grown HG.out (Nat.le_refl _) (fun k hk => by cases hk)⟩
  · have HC := Lib.hid hc
    clear hc
    have hbw : b < w.heap.size := by
      have h1 := HC.out 0 l[0] (List.getElem?_eq_getElem hp)
      rcases Nat.lt_or_ge b w.heap.size with h4 | h4
      · exact h4
      · have h5 : w.heap[b]? = none := Array.getElem?_eq_none h4
        simp [World.cell?, h5] at h1
    go_enter Try.func8, Try.ntmps8
    go_wp2_with (at_make; refine wpList_make_full _ rfl _ _ 22 rfl w.heap.size 9 i0 (.string ByteArray.empty) 1 Try.underlying22 hi hz0 hz1 _ _ _ _ l.length rfl rfl rfl rfl (by rw [hz2]; omega) (by unfold maxLen; omega) (Nat.le_refl _) ?_; intro w1 hown hg)
    have HO : Hid (w1.ownsRow w.heap.size 9 1 (.slice (some ⟨w.heap.size, 0, none⟩) l.length l.length) l.length (copied l 0)) := by
      have e : (madeCells (Value.string ByteArray.empty).cells (l.length * 1)).toList = copied l 0 := by
        show (madeCells #[Value.string ByteArray.empty] (l.length * 1)).toList = _
        rw [Nat.mul_one, made_one]
        simp [copied]
      rw [← e]
      exact Lib.hid hown
    have HG := Lib.hid hg
    clear hown hg
    have HB : Hid (Below w.heap.size w w1) := Lib.hid ((Below.refl _ _).grown HG.out (Nat.le_refl _) (fun k hk => by cases hk))
    clear HG
    go_wp2
    go_loopw [4] (fun i wr => ∃ k : Nat, k ≤ l.length ∧ i = .int .i64 k ∧ Hid (wr.ownsRow w.heap.size 9 1 (.slice (some ⟨w.heap.size, 0, none⟩) l.length l.length) l.length (copied l k)) ∧ Hid (Below w.heap.size w wr)) (fun i _ => l.length - (intOf i).toNat)
    case atStart => exact ⟨0, Nat.zero_le _, rfl, HO, HB⟩
    case round =>
      obtain ⟨k, hk, rfl, ho, hb⟩ := hrel
      by_cases hlt : k < l.length
      · have hc := (hb.out.cell (p := ⟨b, off + k, none⟩) hbw).trans (HC.out k l[k] (List.getElem?_eq_getElem hlt))
        obtain ⟨⟨v, hv⟩, hf⟩ := copyCell hlt ho.out
        have R := copyRel hlt (Nat.le_refl _) ho.out hb.out
        have R1 := Lib.hid R.1
        have R2 := Lib.hid R.2
        clear R ho hb
        generalize l[k] = x at hc R1 R2
        have b0 : (0 : Int) ≤ k := by omega
        have b1 : (k : Int) < l.length := by omega
        go_wp2
        go_roundw
        case rel => exact ⟨k + 1, by omega, by go_num, R1, R2⟩
        case measure => simp [intOf]; omega
      · have HA : Hid (wr.ownsRow w.heap.size 9 1 (.slice (some ⟨w.heap.size, 0, none⟩) l.length l.length) l.length (l.map Value.string)) := by
          have h2 := ho.out
          rw [show k = l.length from by omega, copied_all] at h2
          exact Lib.hid h2
        clear ho
        go_wp2
        go_ret
        exact ⟨_, _, rfl, HA.out, hb.out⟩

end Go.Proofs.Ytjildaahoclojaa
