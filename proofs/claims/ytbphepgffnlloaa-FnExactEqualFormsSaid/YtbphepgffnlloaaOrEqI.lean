/- The program's EqualForms. -/
import Derived.Test.YtbphepgffnlloaaOrTop
namespace Go.Proofs.Ytbphepgffnlloaa
open Go.RowKit
set_option linter.unusedVariables false
set_option linter.unusedSimpArgs false

theorem equalI_calls (va vb : Value) (f g : List Nz) (a ok : Bool) (hok : Hid ((goodB f && goodB g) = ok)) (ha : Hid ((goodB f && goodB g && (!diffF f g false && !diffF f g true)) = a)) (w : World) (lo hi lo' hi' : Nat) (hh : hi ≤ w.heap.size) (hh' : hi' ≤ w.heap.size) (hva : NodesZ w lo hi va f) (hvb : NodesZ w lo' hi' vb g) :
    Calls Try.prog 41 #[.agg #[va], .agg #[vb]] w fun e w' => e = .returned (.tuple #[.bool a, .bool ok]) ∧ Below w.heap.size w w' := by
  have HB0 := Lib.hid fun o o' => show Below w.heap.size w ((w.alloc o).alloc o') from ((Below.refl _ _).alloc (Nat.le_refl _) _).alloc (by simp) _
  obtain ⟨x, hx⟩ : ∃ x, (if goodB f && goodB g then codeOf (!diffF f g false) (!diffF f g true) else 0) = x := ⟨_, rfl⟩
  have hxa : (x == 4) = a := by
    rw [← hx, ← ha.out]
    cases (goodB f && goodB g) <;> cases diffF f g false <;> cases diffF f g true <;> rfl
  have C := Lib.hid fun (W : World) (hW : Below w.heap.size w W) => compareI_calls va vb f g x ok hok (Lib.hid hx) W lo hi lo' hi' (Nat.le_trans hh hW.size) (Nat.le_trans hh' hW.size) (hva.below hW hh) (hvb.below hW hh')
  clear hva hvb hx
  go_enter Try.func41, Try.ntmps41
  go_wp2_with fail
  refine (C.out _ (HB0.out _ _)).mono ?_
  rintro e w4 ⟨rfl, hb4⟩
  have HB4 := Lib.hid (Below.trans (HB0.out _ _) (hb4.mono (by simp; omega)))
  clear hb4
  go_wp2_with fail
  exact bodyPost_ret (v := .tuple #[.bool a, .bool ok]) (by simp [results, Try.results41, go_sem]) rfl ⟨rfl, HB4.out⟩

end Go.Proofs.Ytbphepgffnlloaa
