/- The model's OutcomeOf. -/
import Derived.Test.YtihfnjmglmcnkaaOrFirst
import Derived.Test.YtihfnjmglmcnkaaOrNil
namespace Go.Proofs.Ytihfnjmglmcnkaa
open Go.RowKit
set_option linter.unusedVariables false
set_option linter.unusedSimpArgs false

theorem outcomeS_calls (va : Value) (f : List Nz) (x : Int) (ok : Bool) (hok : Hid (goodB f = ok)) (hx : Hid ((if goodB f then codeOf (!soloF (f.map downN) (f.length - 1) false) (!soloF (f.map downN) (f.length - 1) true) else 0) = x)) (w : World) (lo hi : Nat) (hh : hi ≤ w.heap.size) (hva : NodesZ w lo hi va f) :
    Calls Try.prog 20 #[.agg #[va]] w fun e w' => e = .returned (.tuple #[.int .i64 x, .bool ok]) ∧ Below w.heap.size w w' := by
  have HB0 := Lib.hid fun o => show Below w.heap.size w (w.alloc o) from ((Below.refl _ _).alloc (Nat.le_refl _) _)
  have CG := Lib.hid fun (W : World) (hW : Below w.heap.size w W) => goodS_res va f ok hok W lo hi (Nat.le_trans hh hW.size) (hva.below hW hh)
  cases ok with
  | false =>
    obtain rfl : x = 0 := by rw [← hx.out, hok.out]; rfl
    go_enter Try.func20, Try.ntmps20
    go_wp2_with fail
    refine (CG.out _ (HB0.out _)).mono ?_
    rintro e w4 ⟨rfl, hb4⟩
    have HB4 := Lib.hid (Below.trans (HB0.out _) (hb4.mono (by simp)))
    clear hb4
    go_wp2_with fail
    exact bodyPost_ret (v := .tuple #[.int .i64 0, .bool false]) (by simp [results, Try.results20, go_sem]) rfl ⟨rfl, HB4.out⟩
  | true =>
    have hg := hok.out
    rw [hg] at hx
    obtain ⟨hf1, hf2, _⟩ := (goodB_iff f).1 hg
    have e1 : (f.map downN).length = f.length := by simp
    have C := Lib.hid fun (W : World) (hW : Below w.heap.size w W) => l4Outcome_calls va (f.map downN) x (Lib.hid (by rw [e1]; exact hx.out)) W lo hi (Nat.le_trans hh hW.size) (by rw [hf2.up.1]; exact hva.below hW hh) hf2.up.2.under (by rw [e1]; exact hf1.1) (by rw [e1]; have := hf1.2.1; omega)
    clear hva hg hf1 hf2 e1
    go_enter Try.func20, Try.ntmps20
    go_wp2_with fail
    refine (CG.out _ (HB0.out _)).mono ?_
    rintro e w4 ⟨rfl, hb4⟩
    have k0 : w4.cell? ⟨w.heap.size, 0, none⟩ = some va := (bcell hb4 _ _ (by simp)).trans (by go_simp)
    have HB4 := Lib.hid (Below.trans (HB0.out _) (hb4.mono (by simp)))
    clear hb4
    go_wp2_with fail
    refine (C.out _ HB4.out).mono ?_
    rintro e w5 ⟨rfl, hb5⟩
    have HB5 := Lib.hid (HB4.out.trans (hb5.mono HB4.out.size))
    clear hb5
    go_wp2_with fail
    exact bodyPost_ret (v := .tuple #[.int .i64 x, .bool true]) (by simp [results, Try.results20, go_sem]) rfl ⟨rfl, HB5.out⟩

end Go.Proofs.Ytihfnjmglmcnkaa
