/- The program's OutcomeOf. -/
import Derived.Test.YtihfnjmglmcnkaaOrNil
namespace Go.Proofs.Ytihfnjmglmcnkaa
open Go.RowKit
set_option linter.unusedVariables false
set_option linter.unusedSimpArgs false

theorem outcomeI_calls (va : Value) (f : List Nz) (x : Int) (ok : Bool) (hok : Hid (goodB f = ok)) (hx : Hid ((if goodB f then codeOf (!soloF (f.map downN) (f.length - 1) false) (!soloF (f.map downN) (f.length - 1) true) else 0) = x)) (w : World) (lo hi : Nat) (hh : hi ≤ w.heap.size) (hva : NodesZ w lo hi va f) :
    Calls Try.prog 21 #[.agg #[va]] w fun e w' => e = .returned (.tuple #[.int .i64 x, .bool ok]) ∧ Below w.heap.size w w' := by
  have HB0 := Lib.hid fun o => show Below w.heap.size w (w.alloc o) from ((Below.refl _ _).alloc (Nat.le_refl _) _)
  have C := Lib.hid fun (W : World) (vb : Value) (hW : Below w.heap.size w W) (hb : CopyOf W vb [([], [])]) => show Calls Try.prog 38 #[.agg #[va], .agg #[vb]] W fun e w' => e = .returned (.tuple #[.int .i64 x, .bool ok]) ∧ Below W.heap.size W w' from by
    obtain ⟨lo', hi', hh', hvb⟩ := hb
    exact compareI_calls va vb f [([], [])] x ok (Lib.hid (by rw [good_zero, Bool.and_true]; exact hok.out)) (Lib.hid (by rw [good_zero, Bool.and_true]; exact hx.out)) W lo hi lo' hi' (Nat.le_trans hh hW.size) hh' (hva.below hW hh) hvb
  clear hva hok hx
  go_enter Try.func21, Try.ntmps21
  have k0 : (w.alloc (.cells #[va] 31)).cell? ⟨w.heap.size, 0, none⟩ = some va := by go_simp
  have hS := HB0.out (.cells #[va] 31)
  have hlt0 := block_of_cell k0
  go_upto_region 1 with fail
  generalize (w.alloc (.cells #[va] 31)) = W1 at k0 hS hlt0
  have HS := Lib.hid hS
  have hbd : Below W1.heap.size W1 W1.drew := below_drewN (Below.refl _ _) 1
  have hS0 := held1 k0 hlt0 hbd
  clear hS HB0
  go_region_held3 (fun w' : World => w'.cell? ⟨w.heap.size, 0, none⟩ = some va ∧ Below W1.heap.size W1 w') (first | exact hS0 | (go_split_ands; exact ⟨‹_›, ‹_›⟩) | exact held1 k0 hlt0 hbB | exact held1 k0 hlt0 hbA) (first
    | (go_at_call 38; (with_reducible refine (C.out wa _ (HS.out.trans (hbA.mono HS.out.size)) hca).mono ?_); rintro e wb ⟨rfl, hbb⟩; have hbB := hbA.trans (hbb.mono hbA.size))
    | (go_at_call 39; (with_reducible refine (nothing_calls _).mono ?_); rintro e wa ⟨vz, rfl, hca, hba⟩; have hbA := hbd.trans (hba.mono hbd.size)))
  all_goals
    rename_i hH
    go_wp2_with fail
    exact bodyPost_ret (v := .tuple #[.int .i64 x, .bool ok]) (by simp [results, Try.results21, go_sem]) rfl ⟨rfl, HS.out.trans (hbB.mono HS.out.size)⟩

end Go.Proofs.Ytihfnjmglmcnkaa
