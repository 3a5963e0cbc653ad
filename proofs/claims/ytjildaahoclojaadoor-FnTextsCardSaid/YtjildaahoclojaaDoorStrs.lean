/- laws.eqStringS, markStringS and heldStringS: equal lists, marks laid, marks held. -/
import Derived.Test.YtjildaahoclojaaDoorMarkText
import Derived.Test.YtjildaahoclojaaDoorStands
import Derived.Test.YtjildaahoclojaaDoorEqStrs
import Derived.WalkKit
import Derived.Lib.Hide
import Derived.WalkLawsBesides
import Derived.WalkSpells
import Derived.Outline
import Derived.Deep.QuietTactic
import Derived.BigQuiet
import Derived.Deep.RegionHeld3
namespace Go.Proofs.YtjildaahoclojaaDoor
open Go.RowKit

/-- the marks from number k on, n of them -/
def marks (k : Nat) : Nat → List ByteArray
  | 0 => []
  | n + 1 => markB k :: marks (k + 1) n

theorem marks_length : ∀ (k n : Nat), (marks k n).length = n
  | _, 0 => rfl
  | k, n + 1 => by simp [marks, marks_length (k + 1) n]

theorem marks_at : ∀ (k n i : Nat), i < n → (marks k n)[i]? = some (markB (k + i))
  | _, 0, i, h => by omega
  | k, n + 1, 0, _ => rfl
  | k, n + 1, i + 1, h => by
    rw [marks, List.getElem?_cons_succ, marks_at (k + 1) n i (by omega)]
    congr 2
    omega

set_option maxHeartbeats 400000 in
theorem heldStringS_marks (g c n k0 : Nat) (w : World) (hn : n ≤ 2000000) (hk0 : 1 ≤ k0) (hk1 : k0 ≤ 1000000) (h : StrsAt w g (marks k0 n)) :
    Calls Tryd.prog 34 #[.slice (some ⟨g, 0, none⟩) n c, .int .i64 k0] w fun e w' => e = .returned (.int .i64 ((k0 + n : Nat) : Int)) ∧ Below w.heap.size w w' := by
  have H := Lib.hid h
  clear h
  go_enter Tryd.func34, Tryd.ntmps34
  go_wp2
  go_loopw [1, 5] (fun q i wr => ∃ k : Nat, k ≤ n ∧ i = .int .i64 k ∧ q = .int .i64 ((k0 + k : Nat) : Int) ∧ Below w.heap.size w wr) (fun _ i _ => n - (intOf i).toNat)
  case atStart => exact ⟨0, Nat.zero_le _, rfl, by go_num, Below.refl _ _⟩
  case round =>
    obtain ⟨k, hk, rfl, rfl, hb⟩ := hrel
    by_cases hlt : k < n
    · have hx := H.out k _ (marks_at k0 n k hlt)
      have hgw := block_of_cell hx
      have c1 := (hb.cell (p := ⟨g, k, none⟩) hgw).trans hx
      have hm : ∀ W : World, Hid (Calls Tryd.prog 54 #[.int .i64 ((k0 + k : Nat) : Int)] W fun e w' => e = .returned (.string (markB (k0 + k))) ∧ Below W.heap.size W w') := fun W => Lib.hid (markText_calls (k0 + k) W (by omega) (by omega))
      have HB := Lib.hid hb
      have hgr : g < wr.heap.size := by have := hb.size; omega
      clear hx hb
      have b0 : (0 : Int) ≤ k := by omega
      have b1 : (k : Int) < n := by omega
      go_wp2_with fail
      go_region_held3 (fun w' => w'.cell? ⟨g, k, none⟩ = some (.string (markB (k0 + k)))) (first | go_keep | exact (hbc.cell (p := ⟨g, k, none⟩) (by simpa using hgr)).trans (by assumption)) ((go_at_call 54; refine (hm _).out.mono ?_; rintro e w' ⟨rfl, hbc⟩))
      have HBC := Lib.hid hbc
      clear hbc
      go_wp2
      go_roundw
      case rel => exact ⟨k + 1, by omega, by go_num, by go_num, HB.out.drew.trans (HBC.out.mono HB.out.size)⟩
      case measure => simp [intOf]; omega
    · have HN := Lib.hid (show k = n from by omega)
      have HB := Lib.hid hb
      clear hb
      go_wp2
      go_ret
      exact ⟨ret_int (by rw [HN.out]), HB.out⟩

theorem grownBy_trans {a b c : World} {row : Option Nat} (h : a.grownBy b row) (k : b.grownBy c row) : a.grownBy c row :=
  ⟨k.os.trans h.os, k.tape.trans h.tape, k.output.trans h.output, Nat.le_trans h.size k.size, fun i hi hne => (k.block i (Nat.lt_of_lt_of_le hi h.size) hne).trans (h.block i hi hne)⟩

theorem grownBy_below {w w' : World} (h : Below w.heap.size w w') (row : Option Nat) : w.grownBy w' row := ⟨h.os, h.tape, h.output, h.size, fun k hk _ => h.block k hk⟩

theorem marks_snoc : ∀ (k0 k : Nat), marks k0 (k + 1) = marks k0 k ++ [markB (k0 + k)]
  | k0, 0 => rfl
  | k0, k + 1 => by
    rw [marks, marks_snoc (k0 + 1) k, marks, show k0 + 1 + k = k0 + (k + 1) from by omega]
    rfl

/-- the marks laid so far, and the rest as it was -/
def laidMarks (k0 k : Nat) (xs : List Value) : List Value := (marks k0 k).map Value.string ++ xs.drop k

theorem laidMarks_set (k0 k : Nat) (xs : List Value) (h : k < xs.length) : (laidMarks k0 k xs).set k (.string (markB (k0 + k))) = laidMarks k0 (k + 1) xs := by
  unfold laidMarks
  rw [marks_snoc, List.map_append, List.append_assoc]
  have hl : ((marks k0 k).map Value.string).length = k := by simp [marks_length]
  rw [List.set_append_right _ _ (by omega), hl, Nat.sub_self]
  congr 1
  rw [List.drop_eq_getElem_cons h]
  rfl

theorem laidMarks_all (k0 n : Nat) (xs : List Value) (h : xs.length = n) : laidMarks k0 n xs = (marks k0 n).map Value.string := by
  unfold laidMarks
  rw [List.drop_of_length_le (by omega), List.append_nil]

theorem markRel {base g c n k0 k : Nat} {w wr w1 : World} {xs : List Value} (hk : k < n) (hxs : xs.length = n)
    (hown : wr.ownsRow base 9 1 (.slice (some ⟨g, 0, none⟩) n c) n (laidMarks k0 k xs)) (hg : w.grownBy wr (some g)) (hb : Below wr.heap.size wr w1) :
    (w1.setCell ⟨g, k, none⟩ (.string (markB (k0 + k)))).ownsRow base 9 1 (.slice (some ⟨g, 0, none⟩) n c) n (laidMarks k0 (k + 1) xs) ∧ w.grownBy (w1.setCell ⟨g, k, none⟩ (.string (markB (k0 + k)))) (some g) := by
  have h1 := hown.kept (grownBy_below hb none) (Or.inr (by simp [Value.ownBlock]))
  have h2 := h1.stored k (.string (markB (k0 + k)))
  rw [laidMarks_set k0 k xs (by omega)] at h2
  exact ⟨h2.1, grownBy_trans hg (grownBy_trans (grownBy_below hb _) h2.2)⟩

theorem markCell {base g c n k0 k : Nat} {wr w1 : World} {xs : List Value} (hk : k < n) (hxs : xs.length = n)
    (hown : wr.ownsRow base 9 1 (.slice (some ⟨g, 0, none⟩) n c) n (laidMarks k0 k xs)) (hb : Below wr.heap.size wr w1) :
    (∃ v, w1.cell? ⟨g, k, none⟩ = some v) ∧ w1.frozen? ⟨g, k, none⟩ = false := by
  have h1 := hown.kept (grownBy_below hb none) (Or.inr (by simp [Value.ownBlock]))
  refine ⟨?_, h1.frozenAt k⟩
  have h2 := h1.cellAt k (by omega)
  have hl : (laidMarks k0 k xs).length = n := by simp [laidMarks, marks_length]; omega
  exact ⟨_, h2.trans (List.getElem?_eq_getElem (by omega))⟩

set_option maxHeartbeats 400000 in
theorem markStringS_marks (base g c n k0 : Nat) (xs : List Value) (w : World) (hn : n ≤ 2000000) (hxs : xs.length = n) (hk0 : 1 ≤ k0) (hk1 : k0 ≤ 1000000) (h : w.ownsRow base 9 1 (.slice (some ⟨g, 0, none⟩) n c) n xs) :
    Calls Tryd.prog 33 #[.slice (some ⟨g, 0, none⟩) n c, .int .i64 k0] w fun e w' => e = .returned (.int .i64 ((k0 + n : Nat) : Int)) ∧
      w'.ownsRow base 9 1 (.slice (some ⟨g, 0, none⟩) n c) n ((marks k0 n).map Value.string) ∧ w.grownBy w' (some g) := by
  have H := Lib.hid h
  have HX := Lib.hid hxs
  clear h hxs
  go_enter Tryd.func33, Tryd.ntmps33
  go_wp2
  go_loopw [1, 5] (fun q i wr => ∃ k : Nat, k ≤ n ∧ i = .int .i64 k ∧ q = .int .i64 ((k0 + k : Nat) : Int) ∧ Hid (wr.ownsRow base 9 1 (.slice (some ⟨g, 0, none⟩) n c) n (laidMarks k0 k xs)) ∧ Hid (w.grownBy wr (some g))) (fun _ i _ => n - (intOf i).toNat)
  case atStart => exact ⟨0, Nat.zero_le _, rfl, by go_num, Lib.hid H.out, Lib.hid (World.grownBy.refl _ _)⟩
  case round =>
    obtain ⟨k, hk, rfl, rfl, ho, hg⟩ := hrel
    by_cases hlt : k < n
    · have hm : Hid (Calls Tryd.prog 54 #[.int .i64 ((k0 + k : Nat) : Int)] wr fun e w' => e = .returned (.string (markB (k0 + k))) ∧ Below wr.heap.size wr w') := Lib.hid (markText_calls (k0 + k) wr (by omega) (by omega))
      have b0 : (0 : Int) ≤ k := by omega
      have b1 : (k : Int) < n := by omega
      go_wp2_with fail
      refine hm.out.mono ?_
      rintro e w1 ⟨rfl, hb⟩
      obtain ⟨⟨v, hc⟩, hf⟩ := markCell hlt HX.out ho.out hb
      have R := markRel hlt HX.out ho.out hg.out hb
      have R1 := Lib.hid R.1
      have R2 := Lib.hid R.2
      clear R hb ho hg
      go_wp2
      go_roundw
      case rel => exact ⟨k + 1, by omega, by go_num, by go_num, R1, R2⟩
      case measure => simp [intOf]; omega
    · have hkn : k = n := by omega
      have ho2 := ho.out
      rw [hkn, laidMarks_all k0 n xs HX.out] at ho2
      have HO := Lib.hid ho2
      have HN := Lib.hid hkn
      clear ho2 hkn
      go_wp2
      go_ret
      exact ⟨ret_int (by rw [HN.out]), HO.out, hg.out⟩

end Go.Proofs.YtjildaahoclojaaDoor
