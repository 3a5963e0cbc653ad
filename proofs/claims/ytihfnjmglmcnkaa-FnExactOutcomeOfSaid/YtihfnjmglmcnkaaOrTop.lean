/- The program's CompareForms. -/
import Derived.Test.YtihfnjmglmcnkaaOrI
import Derived.Test.YtihfnjmglmcnkaaFmLaw
namespace Go.Proofs.Ytihfnjmglmcnkaa
open Go.RowKit
set_option linter.unusedVariables false
set_option linter.unusedSimpArgs false

/-- who wins the difference of two games -/
def diffF (f g : List Nz) (l : Bool) : Bool := winF (f.map downN) (g.map downN) (f.length - 1) (g.length - 1) l

theorem compareI_calls (va vb : Value) (f g : List Nz) (x : Int) (ok : Bool) (hok : Hid ((goodB f && goodB g) = ok)) (hx : Hid ((if goodB f && goodB g then codeOf (!diffF f g false) (!diffF f g true) else 0) = x)) (w : World) (lo hi lo' hi' : Nat) (hh : hi ≤ w.heap.size) (hh' : hi' ≤ w.heap.size) (hva : NodesZ w lo hi va f) (hvb : NodesZ w lo' hi' vb g) :
    Calls Try.prog 38 #[.agg #[va], .agg #[vb]] w fun e w' => e = .returned (.tuple #[.int .i64 x, .bool ok]) ∧ Below w.heap.size w w' := by
  have HB0 := Lib.hid fun o o' => show Below w.heap.size w ((w.alloc o).alloc o') from ((Below.refl _ _).alloc (Nat.le_refl _) _).alloc (by simp) _
  have HVA := Lib.hid fun (W : World) (hW : Below w.heap.size w W) => hva.below hW hh
  have HVB := Lib.hid fun (W : World) (hW : Below w.heap.size w W) => hvb.below hW hh'
  clear hva hvb
  cases ok with
  | false =>
    obtain rfl : x = 0 := by rw [← hx.out, hok.out]; rfl
    obtain ⟨r1, h1⟩ : ∃ r, goodB f = r := ⟨_, rfl⟩
    obtain ⟨r2, h2⟩ : ∃ r, goodB g = r := ⟨_, rfl⟩
    have hb : (r1 && r2) = false := by rw [← h1, ← h2]; exact hok.out
    have C := Lib.hid fun (W : World) (hW : Below w.heap.size w W) => contest_bad va vb f g r1 r2 (Lib.hid h1) (Lib.hid h2) hb W lo hi lo' hi' (Nat.le_trans hh hW.size) (Nat.le_trans hh' hW.size) (HVA.out W hW) (HVB.out W hW)
    clear h1 h2 hb
    go_enter Try.func38, Try.ntmps38
    go_wp2_with fail
    refine (C.out _ (HB0.out _ _)).mono ?_
    rintro e w4 ⟨rfl, hb4⟩
    have HB4 := Lib.hid (Below.trans (HB0.out _ _) (hb4.mono (by simp; omega)))
    clear hb4
    go_wp2_with fail
    exact bodyPost_ret (v := .tuple #[.int .i64 0, .bool false]) (by simp [results, Try.results38, go_sem]) rfl ⟨rfl, HB4.out⟩
  | true =>
    have hg := hok.out
    obtain ⟨l, hl⟩ : ∃ l, diffF f g true = l := ⟨_, rfl⟩
    obtain ⟨r, hr⟩ : ∃ r, diffF f g false = r := ⟨_, rfl⟩
    have HX : Hid (codeOf (!r) (!l) = x) := Lib.hid (by rw [← hx.out, hg, hl, hr]; rfl)
    rw [Bool.and_eq_true] at hg
    have C := Lib.hid fun (W : World) (hW : Below w.heap.size w W) => contest_good va vb f g hg.1 hg.2 W lo hi lo' hi' (Nat.le_trans hh hW.size) (Nat.le_trans hh' hW.size) (HVA.out W hW) (HVB.out W hW)
    have CF := Lib.hid fun (W w1 : World) (P : Nat) (h : Held W w1 P (f.map downN) (g.map downN) va vb) => held_outcome h hg.1 hg.2 r l (Lib.hid hl) (Lib.hid hr)
    rw [HX.out] at CF
    clear hg hl hr
    go_enter Try.func38, Try.ntmps38
    go_wp2_with fail
    refine (C.out _ (HB0.out _ _)).mono ?_
    rintro e w4 ⟨P, rfl, hH⟩
    have C2 := Lib.hid (CF.out _ w4 P hH)
    clear hH CF
    go_wp2_with fail
    refine C2.out.mono ?_
    rintro e w5 ⟨rfl, hb5⟩
    have HB5 := Lib.hid (Below.trans (HB0.out _ _) (hb5.mono (by simp; omega)))
    clear hb5 C2
    go_wp2_with fail
    exact bodyPost_ret (v := .tuple #[.int .i64 x, .bool true]) (by simp [results, Try.results38, go_sem]) rfl ⟨rfl, HB5.out⟩

end Go.Proofs.Ytihfnjmglmcnkaa
