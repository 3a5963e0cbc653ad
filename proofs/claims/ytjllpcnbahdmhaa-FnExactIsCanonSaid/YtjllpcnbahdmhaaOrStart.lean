/- The program's contest: start. -/
import Derived.Test.YtjllpcnbahdmhaaOrCt
import Derived.Test.YtjllpcnbahdmhaaFmTo
import Derived.Lib.AppendZerosOnto
import Derived.Lib.SliceRun
import Derived.Deep.WholeRow
import Derived.Lib.Walk
namespace Go.Proofs.Ytjllpcnbahdmhaa
open Go.RowKit Go.Lib
set_option linter.unusedVariables false
set_option linter.unusedSimpArgs false

theorem infoVer : (Try.prog.info? 142).map (fun i => (i.zero, i.size, i.bytes)) = some (some (.int .i8 0), 1, 1) := by kernel_rfl

theorem zeros_one (z : Value) (n : Nat) : Builtin.zeroCells #[z] n = (List.replicate n z).toArray := by
  apply Array.ext
  · simp [Builtin.zeroCells]
  · intro i h1 h2
    simp [Builtin.zeroCells, Nat.mod_one]

set_option maxRecDepth 100000 in
set_option maxHeartbeats 4000000 in
theorem grow_calls (n : Nat) (w : World) (h0 : 0 < n) (hn : n ≤ 100000) :
    Calls Try.prog 110 #[.slice none 0 0, .int .i64 n] w fun e w' => ∃ G m, n ≤ G ∧ G ≤ maxLen ∧ Hid (m = G - n) ∧ e = .returned (.slice (some ⟨w.heap.size, 0, none⟩) 0 G) ∧
      w' = w.drew.alloc (.cells ((List.replicate n (Value.int .i8 0)).toArray ++ (List.replicate m (Value.int .i8 0)).toArray) 142) := by
  obtain ⟨i0, hi0, hz0, hz1, hz2⟩ := info_parts infoVer
  have hrz : ∀ ty, (Builtin.append_ #[90, 3] ty #[.slice none 0 0, .int .i64 (n : Int)]).run Try.prog w =
      .ok (.slice (some ⟨w.heap.size, 0, none⟩) n (grownCap w n 0 142)) (w.drew.alloc (.cells ((List.replicate n (Value.int .i8 0)).toArray ++ (List.replicate (grownCap w n 0 142 - n) (Value.int .i8 0)).toArray) 142)) := fun ty => by
    have h := Lib.run_append_grow_zeros w 90 3 ty 142 i0 (.int .i8 0) .i64 .i64 Try.underlying90 Try.underlying3 hi0 hz0 none 0 0 [] (run_firstCells_none w.drew i0.size 0 0 0) n (by omega) (by omega) (by omega) (by omega)
      (by rw [hz2]; omega) (by rw [Nat.zero_add]; exact growslice_fits (by omega) (by rw [hz2]; omega))
    rw [Nat.zero_add] at h
    have e : (Value.int .i8 0).cells = #[Value.int .i8 0] := rfl
    rw [e, zeros_one, zeros_one] at h
    simpa using h
  have hGn : n ≤ grownCap w n 0 142 := grownCap_ge w _ _ _
  have hGm := grownCap_le_maxLen w n 0 142 (by unfold maxLen; omega)
  obtain ⟨G, hG⟩ : ∃ G, grownCap w n 0 142 = G := ⟨_, rfl⟩
  rw [hG] at hrz hGn hGm
  obtain ⟨m, hm⟩ : ∃ m, G - n = m := ⟨_, rfl⟩
  rw [hm] at hrz
  have HM := Lib.hid hm
  have h1 : ¬ ((n : Int) < 0) := by omega
  have h4 : (n : Int) > 0 := by omega
  have hG63 : (G : Int) ≤ 9223372036854775807 := by unfold maxLen at hGm; omega
  clear hG hm hi0 hz0 hz1 hz2
  go_enter Try.func110, Try.ntmps110
  go_wp2_with (at_builtin; refine Lib.wpList_append_run _ rfl _ _ _ _ rfl _ _ rfl rfl _ _ (hrz _) ?_)
  all_goals (go_ret; exact ⟨G, hGn, hGm, m, Lib.hid HM.out.symm, rfl, rfl⟩)

theorem run_clear (g n m G : Nat) (h0 : 0 < n) (W : World) (ty : TypeId) (h : W.heap[g]? = some (.cells ((List.replicate n (Value.int .i8 0)).toArray ++ (List.replicate m (Value.int .i8 0)).toArray) 142 (0, 0))) :
    (Builtin.clear_ #[90] ty #[.slice (some ⟨g, 0, none⟩) n G]).run Try.prog W = .ok (.tuple #[]) W := by
  obtain ⟨i0, hi0, hz0, hz1, hz2⟩ := info_parts infoVer
  have hst := run_storeCells_at (P := Try.prog) g 0 142 (List.replicate n (Value.int .i8 0)) 0 _ W h (by simp) (by intro v hv; rw [List.eq_of_mem_replicate hv]; rfl)
  have e1 : ((((List.replicate n (Value.int .i8 0)).toArray ++ (List.replicate m (Value.int .i8 0)).toArray).toList.take (0 + 0) ++ List.replicate n (Value.int .i8 0) ++ ((List.replicate n (Value.int .i8 0)).toArray ++ (List.replicate m (Value.int .i8 0)).toArray).toList.drop (0 + 0 + (List.replicate n (Value.int .i8 0)).length))).toArray = (List.replicate n (Value.int .i8 0)).toArray ++ (List.replicate m (Value.int .i8 0)).toArray := by
    simp [List.drop_append]
  rw [e1, setRow_self W g _ _ (0, 0) h] at hst
  have hz : (Builtin.zeroCells (Value.int .i8 0).cells n).toList = List.replicate n (Value.int .i8 0) := by
    have e : (Value.int .i8 0).cells = #[Value.int .i8 0] := rfl
    rw [e, zeros_one]
  obtain ⟨n', rfl⟩ : ∃ n', n = n' + 1 := ⟨n - 1, by omega⟩
  simp [Builtin.clear_, run_underlying Try.underlying90, zeroValue, typeInfo, hi0, hz0, hz, hst]

theorem rowV_new {n m G g base : Nat} {w : World} (h : w.heap[g]? = some (.cells ((List.replicate n (Value.int .i8 0)).toArray ++ (List.replicate m (Value.int .i8 0)).toArray) 142 (0, 0))) (hm : m = G - n) (hn : n ≤ G) (hG : G ≤ maxLen) (hb : base ≤ g) : RowV base g n G (List.replicate n 0) w := by
  refine ⟨by simp, Or.inr ⟨g, G, _, rfl, hb, h, hn, hG, by simp; omega, by simp [List.take_append]⟩⟩

set_option maxRecDepth 100000 in
set_option maxHeartbeats 4000000 in
theorem start_calls (P : Nat) (o0 o1 oa ob : Value) (aa ab : Option Addr) (la lb ca cb : Nat) (w : World) (h0 : w.cell? ⟨P, 0, none⟩ = some oa) (h1 : w.cell? ⟨P, 1, none⟩ = some ob) (h2 : w.cell? ⟨P, 2, none⟩ = some (.slice none 0 0))
    (f0 : w.frozen? ⟨P, 0, none⟩ = false) (f1 : w.frozen? ⟨P, 1, none⟩ = false) (f2 : w.frozen? ⟨P, 2, none⟩ = false) (hla : 0 < la) (hlb : 0 < lb) (hla2 : la ≤ 200) (hlb2 : lb ≤ 200) :
    Calls Try.prog 71 #[.pointer (some ⟨P, 0, none⟩), .slice aa la ca, .slice ab lb cb] w fun e w' => ∃ G, e = .returned (.tuple #[]) ∧
      w'.cell? ⟨P, 0, none⟩ = some (.slice aa la ca) ∧ w'.cell? ⟨P, 1, none⟩ = some (.slice ab lb cb) ∧ w'.cell? ⟨P, 2, none⟩ = some (.slice (some ⟨w.heap.size, 0, none⟩) (2 * (la * lb)) G) ∧
      RowV w.heap.size w.heap.size (2 * (la * lb)) G (List.replicate (2 * (la * lb)) 0) w' ∧ Only w w' (fun b => b = P) := by
  obtain ⟨q, hq⟩ : ∃ q, 2 * (la * lb) = q := ⟨_, rfl⟩
  have hqb : q ≤ 80000 := by rw [← hq]; have := Nat.mul_le_mul hla2 hlb2; omega
  have hq0 : 0 < q := by rw [← hq]; have := Nat.mul_pos hla hlb; omega
  have hqi : 2 * (la : Int) * (lb : Int) = (q : Int) := by rw [← hq]; push_cast; rw [Int.mul_assoc]
  have hqa : (2 : Int) * (la : Int) ≤ 400 := by omega
  rw [hq]
  have hPb := block_of_cell h0
  go_enter Try.func71, Try.ntmps71
  go_wp2_with fail
  have e0 : ((w.setCell ⟨P, 0, none⟩ (.slice aa la ca)).setCell ⟨P, 1, none⟩ (.slice ab lb cb)).cell? ⟨P, 0, none⟩ = some (.slice aa la ca) := by
    rw [World.cell?_setCell_other _ _ _ _ (fun e => by injection e with _ e _; cases e)]
    exact World.cell?_setCell_same _ _ _ h0
  have e1 : ((w.setCell ⟨P, 0, none⟩ (.slice aa la ca)).setCell ⟨P, 1, none⟩ (.slice ab lb cb)).cell? ⟨P, 1, none⟩ = some (.slice ab lb cb) :=
    World.cell?_setCell_same _ _ _ ((World.cell?_setCell_other _ _ _ _ (fun e => by injection e with _ e _; cases e)).trans h1)
  have e2 : ((w.setCell ⟨P, 0, none⟩ (.slice aa la ca)).setCell ⟨P, 1, none⟩ (.slice ab lb cb)).cell? ⟨P, 2, none⟩ = some (.slice none 0 0) := by
    rw [World.cell?_setCell_other _ _ _ _ (fun e => by injection e with _ e _; cases e), World.cell?_setCell_other _ _ _ _ (fun e => by injection e with _ e _; cases e)]
    exact h2
  have e3 : ((w.setCell ⟨P, 0, none⟩ (.slice aa la ca)).setCell ⟨P, 1, none⟩ (.slice ab lb cb)).frozen? ⟨P, 2, none⟩ = false := by
    rw [World.frozen?_setCell, World.frozen?_setCell]; exact f2
  have e4 : ((w.setCell ⟨P, 0, none⟩ (.slice aa la ca)).setCell ⟨P, 1, none⟩ (.slice ab lb cb)).heap.size = w.heap.size := by simp
  have HO : Hid (Only w ((w.setCell ⟨P, 0, none⟩ (.slice aa la ca)).setCell ⟨P, 1, none⟩ (.slice ab lb cb)) (fun b => b = P)) := Lib.hid ((Only.of_set (F := fun b => b = P) _ rfl).trans (Only.of_set (F := fun b => b = P) _ rfl) (fun _ _ h => h))
  clear h0 h1 h2 f0 f1 f2
  refine (grow_calls q _ hq0 (by omega)).mono ?_
  generalize ((w.setCell ⟨P, 0, none⟩ (.slice aa la ca)).setCell ⟨P, 1, none⟩ (.slice ab lb cb)) = W0 at e0 e1 e2 e3 e4 HO ⊢
  rintro e w4 ⟨G, m, hG1, hG2, hm, rfl, hw4⟩
  rw [e4]
  have hb4 : Below W0.heap.size W0 w4 := by rw [hw4]; exact (below_drewN (Below.refl _ _) 1).alloc (Nat.le_refl _) _
  have hh4 : w4.heap[w.heap.size]? = some (.cells ((List.replicate q (Value.int .i8 0)).toArray ++ (List.replicate m (Value.int .i8 0)).toArray) 142 (0, 0)) := by
    rw [hw4, ← e4]
    exact heap_alloc_last W0.drew _
  have hs4 : w4.heap.size = w.heap.size + 1 := by rw [hw4, ← e4]; simp
  have e0 := (bcell hb4 _ _ (by omega)).trans e0
  have e1 := (bcell hb4 _ _ (by omega)).trans e1
  have e2 := (bcell hb4 _ _ (by omega)).trans e2
  have e3 := (hb4.frozen (p := ⟨P, 2, none⟩) (by rw [e4]; exact hPb)).trans e3
  have HO4 : Hid (Only w w4 (fun b => b = P)) := Lib.hid (HO.out.trans (Only.of_below hb4) (fun _ _ h => h))
  have hG63 : (G : Int) ≤ 9223372036854775807 := by unfold maxLen at hG2; omega
  have hqG : (q : Int) ≤ G := by omega
  clear hw4 hb4 HO
  have hne : w.heap.size ≠ P := by omega
  have hh5 : (w4.setCell ⟨P, 2, none⟩ (.slice (some ⟨w.heap.size, 0, none⟩) q G)).heap[w.heap.size]? = some (.cells ((List.replicate q (Value.int .i8 0)).toArray ++ (List.replicate m (Value.int .i8 0)).toArray) 142 (0, 0)) :=
    (Below.heap_setCell w4 ⟨P, 2, none⟩ _ w.heap.size hne).trans hh4
  have HCL := run_clear w.heap.size q m G hq0 (w4.setCell ⟨P, 2, none⟩ (.slice (some ⟨w.heap.size, 0, none⟩) q G)) 0 hh5
  have HR := Lib.hid (rowV_new (base := w.heap.size) hh5 hm.out hG1 hG2 (Nat.le_refl _))
  have HO5 : Hid (Only w (w4.setCell ⟨P, 2, none⟩ (.slice (some ⟨w.heap.size, 0, none⟩) q G)) (fun b => b = P)) := Lib.hid (HO4.out.trans (Only.of_set (F := fun b => b = P) _ rfl) (fun _ _ h => h))
  have e5 : Hid ((w4.setCell ⟨P, 2, none⟩ (.slice (some ⟨w.heap.size, 0, none⟩) q G)).cell? ⟨P, 0, none⟩ = some (.slice aa la ca)) := Lib.hid ((World.cell?_setCell_other _ _ _ _ (fun e => by injection e with _ e _; cases e)).trans e0)
  have e6 : Hid ((w4.setCell ⟨P, 2, none⟩ (.slice (some ⟨w.heap.size, 0, none⟩) q G)).cell? ⟨P, 1, none⟩ = some (.slice ab lb cb)) := Lib.hid ((World.cell?_setCell_other _ _ _ _ (fun e => by injection e with _ e _; cases e)).trans e1)
  have e7 : Hid ((w4.setCell ⟨P, 2, none⟩ (.slice (some ⟨w.heap.size, 0, none⟩) q G)).cell? ⟨P, 2, none⟩ = some (.slice (some ⟨w.heap.size, 0, none⟩) q G)) := Lib.hid (World.cell?_setCell_same _ _ _ e2)
  clear hh4 hh5 HO4 e0 e1
  go_wp2_with fail
  go_end0
  exact ⟨G, rfl, e5.out, e6.out, e7.out, HR.out, HO5.out⟩


end Go.Proofs.Ytjllpcnbahdmhaa
