/- The program's WinningMoves. -/
import Derived.Test.YtjllpcnbahdmhaaOrMvC
namespace Go.Proofs.Ytjllpcnbahdmhaa
open Go.RowKit
set_option linter.unusedVariables false
set_option linter.unusedSimpArgs false

set_option maxRecDepth 100000 in
set_option maxHeartbeats 4000000 in
theorem winningI_calls (va : Value) (f : List Nz) (l ok : Bool) (ms : List Int) (hok : Hid (goodB f = ok)) (hm : Hid (movesV f l = ms)) (w : World) (lo hi : Nat) (hh : hi ≤ w.heap.size) (hva : NodesZ w lo hi va f) :
    Calls Try.prog 22 #[.agg #[va], .bool l] w fun e w' => ∃ v, e = .returned (.tuple #[v, .bool ok]) ∧ OwnI w' w.heap.size v ms ∧ Below w.heap.size w w' := by
  obtain ⟨i0, hi0, hz0, hz1, hz2⟩ := info_parts infoIntA
  have HB0 := Lib.hid fun o => show Below w.heap.size w (w.alloc o) from ((Below.refl _ _).alloc (Nat.le_refl _) _)
  have HVA := Lib.hid fun (W : World) (hW : Below w.heap.size w W) => hva.below hW hh
  clear hva
  cases ok with
  | false =>
    obtain rfl : ms = [] := by rw [← hm.out]; unfold movesV; rw [hok.out]; rfl
    have C := Lib.hid fun (W : World) (vb : Value) (hW : Below w.heap.size w W) (hb : CopyOf W vb [([], [])]) => show Calls Try.prog 59 #[.agg #[va], .agg #[vb]] W fun e w' => e = .returned (.tuple #[.pointer none, .bool false]) ∧ Below W.heap.size W w' from by
      obtain ⟨lo', hi', hh', hvb⟩ := hb
      exact contest_bad va vb f [([], [])] false true hok (Lib.hid good_zero) rfl W lo hi lo' hi' (Nat.le_trans hh hW.size) hh' (HVA.out W hW) hvb
    go_enter Try.func22, Try.ntmps22
    have k0 : (w.alloc (.cells #[va] 28)).cell? ⟨w.heap.size, 0, none⟩ = some va := by go_simp
    have hS := HB0.out (.cells #[va] 28)
    have hlt0 := block_of_cell k0
    go_upto_region 1 with fail
    generalize (w.alloc (.cells #[va] 28)) = W1 at k0 hS hlt0
    have HS := Lib.hid hS
    have hbd : Below W1.heap.size W1 W1.drew := below_drewN (Below.refl _ _) 1
    have hS0 := held1 k0 hlt0 hbd
    clear hS HB0 hok hm
    go_region_held3 (fun w' : World => w'.cell? ⟨w.heap.size, 0, none⟩ = some va ∧ Below W1.heap.size W1 w') (first | exact hS0 | (go_split_ands; exact ⟨‹_›, ‹_›⟩) | exact held1 k0 hlt0 hbB | exact held1 k0 hlt0 hbA) (first
      | (go_at_call 59; (with_reducible refine (C.out wa _ (HS.out.trans (hbA.mono HS.out.size)) hca).mono ?_); rintro e wb ⟨rfl, hbb⟩; have hbB := hbA.trans (hbb.mono hbA.size))
      | (go_at_call 60; (with_reducible refine (nothing_calls _).mono ?_); rintro e wa ⟨vz, rfl, hca, hba⟩; have hbA := hbd.trans (hba.mono hbd.size)))
    all_goals
      rename_i hH
      have HBB : Hid (Below w.heap.size w wb) := Lib.hid (HS.out.trans (hbB.mono HS.out.size))
      clear hH hca C hbB hbA hba hbb hbd hS0 k0
      have HBE : Hid (Below w.heap.size w (wb.alloc (.cells #[] 3))) := Lib.hid (HBB.out.alloc HBB.out.size _)
      have HOE : Hid (OwnI (wb.alloc (.cells #[] 3)) w.heap.size (.slice (some ⟨wb.heap.size, 0, none⟩) 0 0) []) := Lib.hid (World.ownsRow_lit (base := w.heap.size) (e := 3) (size := 1) wb #[] 0 HBB.out.size (by unfold maxLen; omega) rfl)
      go_wp2_with fail
      exact bodyPost_ret (v := .tuple #[.slice (some ⟨wb.heap.size, 0, none⟩) 0 0, .bool false]) (by simp [results, Try.results22, go_sem]) rfl ⟨_, rfl, HOE.out, HBE.out⟩
  | true =>
    have hg := hok.out
    have h0 := ((goodB_iff f).1 hg).1.1
    have h120 := ((goodB_iff f).1 hg).1.2.1
    have HM : Hid (movesK (f.map downN) (optsD (f.map downN) (f.length - 1) l) l (optsD (f.map downN) (f.length - 1) l).length = ms) := Lib.hid (by rw [← movesV_good hg]; exact hm.out)
    have C := Lib.hid fun (W : World) (vb : Value) (hW : Below w.heap.size w W) (hb : CopyOf W vb [([], [])]) => show Calls Try.prog 59 #[.agg #[va], .agg #[vb]] W fun e w' => ∃ P, e = .returned (.tuple #[.pointer (some ⟨P, 0, none⟩), .bool true]) ∧ Held W w' P (f.map downN) [([], [])] va vb from by
      obtain ⟨lo', hi', hh', hvb⟩ := hb
      exact contest_good va vb f [([], [])] hg good_zero W lo hi lo' hi' (Nat.le_trans hh hW.size) hh' (HVA.out W hW) hvb
    have HG := Lib.hid hg
    go_enter Try.func22, Try.ntmps22
    have k0 : (w.alloc (.cells #[va] 28)).cell? ⟨w.heap.size, 0, none⟩ = some va := by go_simp
    have hS := HB0.out (.cells #[va] 28)
    have hlt0 := block_of_cell k0
    go_upto_region 1 with fail
    generalize (w.alloc (.cells #[va] 28)) = W1 at k0 hS hlt0
    have HS := Lib.hid hS
    have hbd : Below W1.heap.size W1 W1.drew := below_drewN (Below.refl _ _) 1
    have hS0 := held1 k0 hlt0 hbd
    clear hS HB0 hok hm hg
    go_region_held3 (fun w' : World => w'.cell? ⟨w.heap.size, 0, none⟩ = some va ∧ Below W1.heap.size W1 w') (first | exact hS0 | (go_split_ands; exact ⟨‹_›, ‹_›⟩) | exact held1 k0 hlt0 hbB | exact held1 k0 hlt0 hbA) (first
      | (go_at_call 59; (with_reducible refine (C.out wa _ (HS.out.trans (hbA.mono HS.out.size)) hca).mono ?_); rintro e wb ⟨P, rfl, hH1⟩; have hbB := hbA.trans ((held_below hH1).mono hbA.size))
      | (go_at_call 60; (with_reducible refine (nothing_calls _).mono ?_); rintro e wa ⟨vz, rfl, hca, hba⟩; have hbA := hbd.trans (hba.mono hbd.size)))
    all_goals
      rename_i hH
      have HBB : Hid (Below w.heap.size w wb) := Lib.hid (HS.out.trans (hbB.mono HS.out.size))
      have HWA : Hid (w.heap.size ≤ wa.heap.size) := Lib.hid (Nat.le_trans HS.out.size hbA.size)
      have HH1 := Lib.hid hH1
      clear hH hca C hbB hbA hba hbd hS0 k0 hH1
      have CM := Lib.hid (show Calls Try.prog 61 #[.pointer (some ⟨P, 0, none⟩), .bool l] wb fun e w' => ∃ v, e = .returned v ∧ OwnI w' w.heap.size v ms ∧ Below w.heap.size w w' from by
        obtain ⟨gg, n, cap, cs, hc, hw, hrow, hb0⟩ := HH1.out
        obtain ⟨hf1, hf2, _⟩ := (goodB_iff f).1 HG.out
        have e1 : (f.map downN).length = f.length := by simp
        have hu0 : Under ([([], [])] : List Nd) := ((goodB_iff [([], [])]).1 good_zero).2.1.up.2.under
        have hL : (optsD (f.map downN) (f.length - 1) l).length ≤ 1000 := by
          obtain ⟨b, off, cc, v1, v2, n1, n2, _, _, _, _, _, _, q1, q2, z1, z2⟩ := last_at (HVA.out wb HBB.out) HG.out
          cases l with
          | true => rw [q1]; omega
          | false => rw [q2]; omega
        refine (movesC_calls wa.heap.size P gg n cap (f.map downN) [([], [])] _ _ hf2.up.2.under hu0 (by rw [e1]; omega) (by simp) (by rw [e1]; exact h0) (by simp) l (optsD (f.map downN) (f.length - 1) l) ms (Lib.hid (by rw [e1])) hL HM wb hc cs hw hrow).mono ?_
        rintro e w' ⟨v, rfl, ho, ha⟩
        exact ⟨v, rfl, ho.mono HBB.out.size, HBB.out.trans (ha.only.below HBB.out.size (fun b e => by have := hc.hg; have := HWA.out; omega))⟩)
      clear HH1 HVA HS HWA HG HM
      go_wp2_with fail
      refine CM.out.mono ?_
      rintro e wd ⟨v, rfl, hown, hbw⟩
      have OF := Lib.hid hown
      have BF := Lib.hid hbw
      obtain ⟨av, cv, rfl⟩ := hown.form
      clear CM hown hbw
      go_wp2_with fail
      exact bodyPost_ret (v := .tuple #[.slice av ms.length cv, .bool true]) (by simp [results, Try.results22, go_sem]) rfl ⟨_, rfl, OF.out, BF.out⟩

end Go.Proofs.Ytjllpcnbahdmhaa
