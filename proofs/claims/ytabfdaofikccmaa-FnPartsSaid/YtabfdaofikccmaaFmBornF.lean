/- BornOf, the program's and the model's. -/
import Derived.Test.YtabfdaofikccmaaFmRootN
namespace Go.Proofs.Ytabfdaofikccmaa
open Go.RowKit
/-- the birthday that is told -/
def bornV (f : List Nz) : Nat := if goodB f then bOf (f.map downN) (f.length - 1) else 0
set_option maxHeartbeats 2000000 in
theorem bornI_calls (v : Value) (f : List Nz) (w : World) (lo hi : Nat) (hh : hi ≤ w.heap.size) (hv : NodesZ w lo hi v f) :
    Calls Try.prog 23 #[.agg #[v]] w fun e w' => e = .returned (.tuple #[.int .i64 (bornV f : Nat), .bool (goodB f)]) ∧ Below w.heap.size w w' := by
  have HV := Lib.hid hv
  have CG := Lib.hid fun (W : World) (hW : Below w.heap.size w W) => goodI_calls v f W lo hi (by have := hW.size; omega) (hv.below hW hh)
  obtain ⟨ao, c, rfl, hlm, _⟩ := hv
  have HB0 : Hid (Below w.heap.size w (w.alloc (.cells #[.slice ao f.length c] 28))) := Lib.hid ((Below.refl _ _).alloc (Nat.le_refl _) _)
  go_enter Try.func23, Try.ntmps23
  go_wp2_with fail
  refine (CG.out _ HB0.out).mono ?_
  rintro e w1 ⟨rfl, hb1⟩
  have hd1 : w1.cell? ⟨w.heap.size, 0, none⟩ = some (.slice ao f.length c) := (bcell hb1 _ 0 (by simp)).trans (by go_simp)
  have HB1 := Lib.hid (HB0.out.trans (hb1.mono (by simp)))
  clear hb1 CG
  cases hg : goodB f with
  | false =>
    have HG := Lib.hid hg
    have R : Hid (bornV f = 0) := Lib.hid (by unfold bornV; rw [hg]; rfl)
    clear hg HV
    go_wp2
    exact bodyPost_ret (v := .tuple #[.int .i64 (0 : Int), .bool false]) (by simp [results, Try.results23, go_sem]) rfl ⟨by rw [R.out, HG.out]; rfl, HB1.out⟩
  | true =>
    have HG := Lib.hid hg
    have hG := (goodB_iff f).1 hg
    have R : Hid (bornV f = bOf (f.map downN) (f.length - 1)) := Lib.hid (by unfold bornV; rw [hg]; rfl)
    have hup := hG.2.1.up
    have hl0 := hG.1.1
    have hl1 := hG.1.2.1
    have hl2 : (f.map downN).length = f.length := by simp
    have CB1 : Hid (∀ W, Below w1.heap.size w1 W → Calls Try.prog 53 #[.slice ao f.length c] W fun e w' => ∃ g, e = .returned (.slice (some ⟨g, 0, none⟩) f.length f.length) ∧ RowN W.heap.size g f.length (bornsOf (f.map downN)) w' ∧ Below W.heap.size W w') := Lib.hid (fun W hW => by
      have h := birth_calls (.slice ao f.length c) (f.map downN) W lo hi (by have := HB1.out.size; have := hW.size; omega) (by rw [hup.1]; exact (HV.out.below HB1.out hh).below hW (by have := HB1.out.size; omega)) hup.2.under (by simp; omega)
      rw [hl2] at h
      exact h)
    obtain ⟨x, hx⟩ := lt_get (l := bornsOf (f.map downN)) (i := f.length - 1) (by rw [bornsOf_len, hl2]; omega)
    have RX : Hid (bOf (f.map downN) (f.length - 1) = x) := Lib.hid (by unfold bOf; rw [List.getD_eq_getElem?_getD, hx]; rfl)
    have HX := Lib.hid hx
    have hw1 : IntKind.i64.wrap ((f.length : Int) - 1) = (f.length : Int) - 1 := IntWalk.i64_in _ (by omega)
    have hw2 : (0 : Int) ≤ (f.length : Int) - 1 := by omega
    have hw3 : (f.length : Int) - 1 < f.length := by omega
    have hw4 : ((f.length : Int) - 1).toNat = f.length - 1 := by omega
    have hbl := block_of_cell hd1
    clear hx hl2 hG hup hg HV
    have hS0 : w1.drew.cell? ⟨w.heap.size, 0, none⟩ = some (.slice ao f.length c) ∧ Below w1.heap.size w1 w1.drew := ⟨hd1, below_drewN (Below.refl _ _) 1⟩
    have CB2 := Lib.hid fun (W : World) (hW : Below w1.heap.size w1 W) => CB1.out W hW
    go_upto_region 3 with fail
    go_region_with (
      (go_at_call 53; (with_reducible refine (CB2.out _ hS0.2).mono ?_); rintro e wb ⟨g, rfl, hrow, hbb⟩; have hbB : Below w1.heap.size w1 wb := hS0.2.trans (hbb.mono hS0.2.size); have hcl := hrow.at_ HX.out; have hd2 := (bcell hbB _ 0 hbl).trans hd1))
    all_goals
      go_wp2_with fail
      exact bodyPost_ret (v := .tuple #[.int .i64 (x : Int), .bool true]) (by simp [results, Try.results23, go_sem]) rfl ⟨by rw [R.out, RX.out, HG.out], HB1.out.trans (hbB.mono HB1.out.size)⟩
end Go.Proofs.Ytabfdaofikccmaa
