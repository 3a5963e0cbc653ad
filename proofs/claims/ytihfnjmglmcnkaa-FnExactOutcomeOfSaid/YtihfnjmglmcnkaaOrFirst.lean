/- The model's l4First and l4Outcome. -/
import Derived.Test.YtihfnjmglmcnkaaOrWins
import Derived.Test.YtihfnjmglmcnkaaOrCode
namespace Go.Proofs.Ytihfnjmglmcnkaa
open Go.RowKit
set_option linter.unusedVariables false
set_option linter.unusedSimpArgs false

theorem winsF_last (f : List Nd) (hu : Under f) (h0 : 0 < f.length) : (winsF f).1[f.length - 1]? = some (soloF f (f.length - 1) true) ∧ (winsF f).2[f.length - 1]? = some (soloF f (f.length - 1) false) := by
  have h := winsF_is f hu f.length (Nat.le_refl _)
  rw [List.take_length] at h
  obtain ⟨h1, h2, h3⟩ := h
  obtain ⟨e1, e2⟩ := h3 (f.length - 1) (by omega)
  rw [List.getD_eq_getElem?_getD] at e1 e2
  obtain ⟨x, hx⟩ := lt_get (l := (winsF f).1) (i := f.length - 1) (by omega)
  obtain ⟨y, hy⟩ := lt_get (l := (winsF f).2) (i := f.length - 1) (by omega)
  rw [hx] at e1
  rw [hy] at e2
  exact ⟨by rw [hx, ← e1]; rfl, by rw [hy, ← e2]; rfl⟩

set_option maxHeartbeats 1000000 in
theorem l4First_calls (v : Value) (f : List Nd) (l r : Bool) (hr : Hid (soloF f (f.length - 1) l = r)) (w : World) (lo hi : Nat) (hh : hi ≤ w.heap.size) (hv : NodesZ w lo hi v (f.map upN)) (hu : Under f) (h0 : 0 < f.length) (hl : f.length ≤ 1000) :
    Calls Try.prog 59 #[.agg #[v], .bool l] w fun e w' => e = .returned (.bool r) ∧ Below w.heap.size w w' := by
  have HB0 := Lib.hid fun o => show Below w.heap.size w (w.alloc o) from ((Below.refl _ _).alloc (Nat.le_refl _) _)
  have C := Lib.hid fun (W : World) (hW : Below w.heap.size w W) => l4Wins_calls v f W lo hi (Nat.le_trans hh hW.size) (hv.below hW hh) hu hl
  obtain ⟨hl1, hl2⟩ := winsF_last f hu h0
  clear hv hu
  have n1 : IntKind.i64.wrap ((f.length : Int) - 1) = ((f.length - 1 : Nat) : Int) := by rw [IntWalk.i64_in _ (by omega)]; omega
  have n2 : ((f.length - 1 : Nat) : Int) < f.length := by omega
  go_enter Try.func59, Try.ntmps59
  go_wp2_with fail
  refine (C.out _ (HB0.out _)).mono ?_
  rintro e w4 ⟨g1, c1, g2, c2, rfl, hr1, hr2, hb4⟩
  have HB4 := Lib.hid (Below.trans (HB0.out _) (hb4.mono (by simp)))
  have k1 := hr1.at_ hl1
  have k2 := hr2.at_ hl2
  clear hb4 hr1 hr2 hl1 hl2 C
  cases l with
  | true =>
    rw [hr.out] at k1
    go_wp2_with fail
    go_ret
    exact ⟨rfl, HB4.out⟩
  | false =>
    rw [hr.out] at k2
    go_wp2_with fail
    go_ret
    exact ⟨rfl, HB4.out⟩

set_option maxHeartbeats 1000000 in
theorem l4Outcome_calls (va : Value) (f : List Nd) (x : Int) (hx : Hid (codeOf (!soloF f (f.length - 1) false) (!soloF f (f.length - 1) true) = x)) (w : World) (lo hi : Nat) (hh : hi ≤ w.heap.size) (hv : NodesZ w lo hi va (f.map upN)) (hu : Under f) (h0 : 0 < f.length) (hl : f.length ≤ 1000) :
    Calls Try.prog 37 #[.agg #[va]] w fun e w' => e = .returned (.int .i64 x) ∧ Below w.heap.size w w' := by
  have HB0 := Lib.hid fun o => show Below w.heap.size w (w.alloc o) from ((Below.refl _ _).alloc (Nat.le_refl _) _)
  obtain ⟨rl, hrl⟩ : ∃ r, soloF f (f.length - 1) true = r := ⟨_, rfl⟩
  obtain ⟨rr, hrr⟩ : ∃ r, soloF f (f.length - 1) false = r := ⟨_, rfl⟩
  have CT := Lib.hid fun (W : World) (hW : Below w.heap.size w W) => l4First_calls va f true rl (Lib.hid hrl) W lo hi (Nat.le_trans hh hW.size) (hv.below hW hh) hu h0 hl
  have CF := Lib.hid fun (W : World) (hW : Below w.heap.size w W) => l4First_calls va f false rr (Lib.hid hrr) W lo hi (Nat.le_trans hh hW.size) (hv.below hW hh) hu h0 hl
  rw [hrl, hrr] at hx
  clear hv hu hrl hrr
  go_enter Try.func37, Try.ntmps37
  have k0 : (w.alloc (.cells #[va] 31)).cell? ⟨w.heap.size, 0, none⟩ = some va := by go_simp
  have hS := HB0.out (.cells #[va] 31)
  have hlt0 := block_of_cell k0
  go_upto_region 1 with fail
  generalize (w.alloc (.cells #[va] 31)) = W1 at k0 hS hlt0
  have HS := Lib.hid hS
  have hbd : Below W1.heap.size W1 W1.drew := below_drewN (Below.refl _ _) 1
  have hS0 := held1 k0 hlt0 hbd
  clear hS HB0
  go_region_held3 (fun w' : World => w'.cell? ⟨w.heap.size, 0, none⟩ = some va ∧ Below W1.heap.size W1 w') (first | exact hS0 | (go_split_ands; exact ⟨‹_›, ‹_›⟩) | exact held1 k0 hlt0 hbB | exact held1 k0 hlt0 hbA | exact held1 k0 hlt0 hbC) (first
    | (go_at_call 58; (with_reducible refine (l4Code_calls _ _ _).mono ?_); rintro e wc ⟨rfl, rfl⟩)
    | (go_at_call 59; (with_reducible refine (CF.out _ (HS.out.trans (hbd.mono HS.out.size))).mono ?_); rintro e wa ⟨rfl, hba⟩; have hbA := hbd.trans (hba.mono hbd.size))
    | (go_at_call 59; (with_reducible refine (CT.out wa (HS.out.trans (hbA.mono HS.out.size))).mono ?_); rintro e wb ⟨rfl, hbb⟩; have hbB := hbA.trans (hbb.mono hbA.size)))
  all_goals
    rename_i hH
    go_wp2_with fail
    go_ret
    exact ⟨ret_int hx.out, HS.out.trans (hH.2.mono HS.out.size)⟩

end Go.Proofs.Ytihfnjmglmcnkaa
