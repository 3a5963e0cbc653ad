/- Sets of numbers: impl's set[int]. -/
import Derived.Test.YtabfdaofikccmaaFmBase
import Derived.Maps.OwnSet
import Derived.Maps.OwnOps
import Derived.IntWalk
import Derived.WalkArith
namespace Go.Proofs.Ytabfdaofikccmaa
open Go.RowKit
open Go.Maps (Keyed)
theorem lawI : Keyed Try.prog 3 := Maps.int_keyed Try.underlying3
theorem wfN (x : Nat) (h : x ≤ 1000000000) : (Lit.int .i64 (x : Int)).wf = true := WalkArith.wf_i64 (by omega)
theorem keyN (x : Nat) (h : x ≤ 1000000000) : keyOf Try.prog 3 (.int .i64 (x : Int)) = some (.int .i64 (x : Int)) := Maps.keyOf_int_mk Try.underlying3 (wfN x h)
/-- block b is a set of just these numbers -/
def SetN (w : World) (b n : Nat) (S : Nat → Bool) : Prop :=
  ∃ D : DataW Unit, w.ownsMap Try.prog 3 unitElem b n D ∧ (∀ x : Nat, Maps.has D (.int .i64 (x : Int)) = S x) ∧ ∀ kl, Maps.has D kl = true → ∃ x : Nat, kl = .int .i64 (x : Int)
theorem SetN.other {w : World} {b n : Nat} {S : Nat → Bool} (h : SetN w b n S) {b' o : Nat} {v : Value} (hc : w.cell? ⟨b', o, none⟩ = some v) : b' ≠ b := by
  rintro rfl
  obtain ⟨D, ⟨es, clock, hb, _⟩, _⟩ := h
  simp [World.cell?, hb] at hc
theorem SetN.kept {w w' : World} {b n : Nat} {S : Nat → Bool} {row : Option Nat} (h : SetN w b n S) (hg : w.grownBy w' row) (hne : some b ≠ row) : SetN w' b n S := by
  obtain ⟨D, h1, h2⟩ := h
  exact ⟨D, h1.kept hg hne, h2⟩
theorem SetN.lt {w : World} {b n : Nat} {S : Nat → Bool} (h : SetN w b n S) : b < w.heap.size := by obtain ⟨D, h1, _⟩ := h; exact h1.lt
theorem lit_ne {x y : Nat} (h : x ≠ y) : Lit.int .i64 (x : Int) ≠ Lit.int .i64 (y : Int) := by
  intro e
  injection e with _ e
  omega
theorem keyLit (x : Nat) (h : x ≤ 1000000000) : WideAt.IsKeyLit (Lit.int .i64 (x : Int)) := lawI.key (keyN x h)
/-- a number put in -/
theorem setN_put {w' : World} {b n : Nat} {S : Nat → Bool} {D : DataW Unit} {x : Nat} (hx : x ≤ 1000000000) (hI : Maps.IsMap D) (h2 : ∀ x : Nat, Maps.has D (.int .i64 (x : Int)) = S x) (h3 : ∀ kl, Maps.has D kl = true → ∃ x : Nat, kl = .int .i64 (x : Int))
    (hown : w'.ownsMap Try.prog 3 unitElem b n (D.put (.int .i64 (x : Int)) (.agg []))) : SetN w' b n (fun y => decide (y = x) || S y) := by
  refine ⟨_, hown, fun y => ?_, fun kl hk => ?_⟩
  · by_cases e : y = x
    · subst e
      rw [Maps.has_put_same hI (keyLit y hx)]
      simp
    · rw [Maps.has_put_other (lit_ne e), h2]
      simp [e]
  · by_cases e : kl = .int .i64 (x : Int)
    · exact ⟨x, e⟩
    · rw [Maps.has_put_other e] at hk
      exact h3 kl hk
/-- a number struck -/
theorem setN_del {w' : World} {b n : Nat} {S : Nat → Bool} {D : DataW Unit} {x : Nat} (h2 : ∀ x : Nat, Maps.has D (.int .i64 (x : Int)) = S x) (h3 : ∀ kl, Maps.has D kl = true → ∃ x : Nat, kl = .int .i64 (x : Int))
    (hown : w'.ownsMap Try.prog 3 unitElem b n (D.del (.int .i64 (x : Int)))) : SetN w' b n (fun y => S y && decide (y ≠ x)) := by
  refine ⟨_, hown, fun y => ?_, fun kl hk => ?_⟩
  · by_cases e : y = x
    · subst e
      rw [Maps.has_del_same]
      simp
    · rw [Maps.has_del_other (lit_ne e), h2]
      simp [e]
  · by_cases e : kl = .int .i64 (x : Int)
    · exact ⟨x, e⟩
    · rw [Maps.has_del_other e] at hk
      exact h3 kl hk
theorem setN_congr {w : World} {b n : Nat} {S T : Nat → Bool} (h : SetN w b n S) (e : ∀ x, S x = T x) : SetN w b n T := by
  have : S = T := funext e
  rw [← this]
  exact h
theorem grown_refl (w : World) (row : Option Nat) : w.grownBy w row := ⟨rfl, rfl, rfl, Nat.le_refl _, fun _ _ _ => rfl⟩
theorem grown_trans {a b c : World} {row : Option Nat} (h : a.grownBy b row) (k : b.grownBy c row) : a.grownBy c row :=
  ⟨k.os.trans h.os, k.tape.trans h.tape, k.output.trans h.output, Nat.le_trans h.size k.size, fun i hi hne => (k.block i (Nat.lt_of_lt_of_le hi h.size) hne).trans (h.block i hi hne)⟩
theorem grown_cell {a b : World} {r : Nat} (h : a.grownBy b (some r)) {x o : Nat} {v : Value} (hne : x ≠ r) (hc : a.cell? ⟨x, o, none⟩ = some v) : b.cell? ⟨x, o, none⟩ = some v := by
  have hb := h.block x (block_of_cell hc) (fun e => hne (by injection e))
  exact (World.cell?_of_block (a := ⟨x, o, none⟩) hb).trans hc
set_option maxHeartbeats 1000000 in
theorem setAdd_calls (b n : Nat) (S : Nat → Bool) (v : Value) (L : List Nat) (w : World) (lo hi : Nat) (hs : SetN w b n S) (hv : IntsZ w lo hi v (upL L)) (hx : ∀ x ∈ L, x ≤ 1000000000) (hn : n + L.length ≤ 1000000000) :
    Calls Try.prog 81 #[.map (some b), v] w fun e w' => e = .returned (.tuple #[]) ∧ SetN w' b (n + L.length) (fun y => decide (y ∈ L) || S y) ∧ w.grownBy w' (some b) := by
  have HS := Lib.hid hs
  clear hs
  have hLL : (upL L).length = L.length := by unfold upL; simp
  obtain ⟨ao, c, rfl, _, h3⟩ := hv
  have H := Lib.hid h3
  have HX := Lib.hid hx
  clear h3 hx
  rw [hLL]
  clear hLL
  go_enter Try.func81, Try.ntmps81
  go_wp2
  go_loopw [8] (fun i wr => ∃ k : Nat, k ≤ L.length ∧ i = .int .i64 k ∧ Hid (SetN wr b (n + k) (fun y => decide (y ∈ L.take k) || S y)) ∧ Hid (w.grownBy wr (some b))) (fun i _ => L.length - (intOf i).toNat)
  case atStart => exact ⟨0, Nat.zero_le _, rfl, Lib.hid (setN_congr HS.out (fun x => by simp)), Lib.hid (grown_refl _ _)⟩
  case round =>
    obtain ⟨k, hk, rfl, hset, hg⟩ := hrel
    by_cases hlt : k < L.length
    · obtain ⟨x, hx⟩ := lt_get hlt
      obtain ⟨b', off, rfl, _, _, c1⟩ := H.out k (x : Int) (by unfold upL; rw [List.getElem?_map, hx]; rfl)
      have c2 := grown_cell hg.out (HS.out.other c1) c1
      have hxl := HX.out x (List.mem_of_getElem? hx)
      have hkey := keyN x hxl
      have HT : Hid (∀ y, (decide (y = x) || (decide (y ∈ L.take k) || S y)) = (decide (y ∈ L.take (k + 1)) || S y)) := Lib.hid (fun y => by
        rw [List.take_add_one, hx]
        by_cases e : y = x <;> by_cases e2 : y ∈ L.take k <;> simp [e, e2])
      obtain ⟨D, hown, hD1, hD2⟩ := hset.out
      have hI : Maps.IsMap D := hown.isMap
      have HD1 := Lib.hid hD1
      have HD2 := Lib.hid hD2
      clear hD1 hD2 hset c1 hx
      have b0 : (0 : Int) ≤ k := by omega
      have b1 : (k : Int) < L.length := by omega
      go_wp2_with (at_mapUpdate; refine wpList_mapUpdate_own _ rfl _ _ _ 107 rfl 3 124 lawI Try.underlying107 unitElem b (n + k) D rfl hown (by unfold maxLen; omega) _ _ _ rfl rfl hkey (.agg []) [] unitElem_mk ?_; intro w1 hown1 hgrow1)
      have R1 : Hid (SetN w1 b (n + (k + 1)) (fun y => decide (y ∈ L.take (k + 1)) || S y)) := Lib.hid (setN_congr (setN_put hxl hI HD1.out HD2.out hown1) HT.out)
      have R2 : Hid (w.grownBy w1 (some b)) := Lib.hid (grown_trans hg.out hgrow1)
      clear hown1 hgrow1 hown hkey c2
      go_wp2
      go_roundw
      case rel => exact ⟨k + 1, by omega, by go_num, R1, R2⟩
      case measure => simp [intOf]; omega
    · have R : Hid (SetN wr b (n + L.length) (fun y => decide (y ∈ L) || S y)) := Lib.hid (by
        have h2 := hset.out
        rw [show k = L.length from by omega, List.take_length] at h2
        exact h2)
      clear hset
      go_wp2
      go_end0
      exact ⟨rfl, R.out, hg.out⟩
set_option maxHeartbeats 1000000 in
theorem setDrop_calls (b n : Nat) (S : Nat → Bool) (v : Value) (L : List Nat) (w : World) (lo hi : Nat) (hs : SetN w b n S) (hv : IntsZ w lo hi v (upL L)) (hx : ∀ x ∈ L, x ≤ 1000000000) :
    Calls Try.prog 101 #[.map (some b), v] w fun e w' => e = .returned (.tuple #[]) ∧ SetN w' b n (fun y => S y && decide (y ∉ L)) ∧ w.grownBy w' (some b) := by
  have HS := Lib.hid hs
  clear hs
  have hLL : (upL L).length = L.length := by unfold upL; simp
  obtain ⟨ao, c, rfl, hlm, h3⟩ := hv
  have H := Lib.hid h3
  have HX := Lib.hid hx
  clear h3 hx
  rw [hLL] at hlm ⊢
  clear hLL
  go_enter Try.func101, Try.ntmps101
  go_wp2
  go_loopw [8] (fun i wr => ∃ k : Nat, k ≤ L.length ∧ i = .int .i64 k ∧ Hid (SetN wr b n (fun y => S y && decide (y ∉ L.take k))) ∧ Hid (w.grownBy wr (some b))) (fun i _ => L.length - (intOf i).toNat)
  case atStart => exact ⟨0, Nat.zero_le _, rfl, Lib.hid (setN_congr HS.out (fun x => by simp)), Lib.hid (grown_refl _ _)⟩
  case round =>
    obtain ⟨k, hk, rfl, hset, hg⟩ := hrel
    by_cases hlt : k < L.length
    · obtain ⟨x, hx⟩ := lt_get hlt
      obtain ⟨b', off, rfl, _, _, c1⟩ := H.out k (x : Int) (by unfold upL; rw [List.getElem?_map, hx]; rfl)
      have c2 := grown_cell hg.out (HS.out.other c1) c1
      have hxl := HX.out x (List.mem_of_getElem? hx)
      have hkey := keyN x hxl
      have HT : Hid (∀ y, ((S y && decide (y ∉ L.take k)) && decide (y ≠ x)) = (S y && decide (y ∉ L.take (k + 1)))) := Lib.hid (fun y => by
        rw [List.take_add_one, hx]
        by_cases e : y = x <;> by_cases e2 : y ∈ L.take k <;> simp [e, e2])
      obtain ⟨D, hown, hD1, hD2⟩ := hset.out
      have HD1 := Lib.hid hD1
      have HD2 := Lib.hid hD2
      clear hD1 hD2 hset c1 hx
      have b0 : (0 : Int) ≤ k := by omega
      have b1 : (k : Int) < L.length := by omega
      go_wp2_with (at_delete; refine wpList_delete_own _ rfl _ _ 107 3 rfl 124 lawI Try.underlying107 unitElem b n D rfl hown _ _ rfl hkey ?_; intro w1 hown1 hturn1)
      have R1 : Hid (SetN w1 b n (fun y => S y && decide (y ∉ L.take (k + 1)))) := Lib.hid (setN_congr (setN_del HD1.out HD2.out hown1) HT.out)
      have R2 : Hid (w.grownBy w1 (some b)) := Lib.hid (grown_trans hg.out hturn1.grown)
      clear hown1 hturn1 hown hkey c2
      go_wp2
      go_roundw
      case rel => exact ⟨k + 1, by omega, by go_num, R1, R2⟩
      case measure => simp [intOf]; omega
    · have R : Hid (SetN wr b n (fun y => S y && decide (y ∉ L))) := Lib.hid (by
        have h2 := hset.out
        rw [show k = L.length from by omega, List.take_length] at h2
        exact h2)
      clear hset
      go_wp2
      go_end0
      exact ⟨rfl, R.out, hg.out⟩

end Go.Proofs.Ytabfdaofikccmaa
