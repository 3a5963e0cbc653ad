/- The walk of laws.FnOutcome. -/
import Derived.Test.YtiacgcpcgabdoaaDrAll
import Derived.Test.YtiacgcpcgabdoaaOrAll
namespace Go.Proofs.Ytiacgcpcgabdoaa
open Go.RowKit
set_option linter.unusedVariables false
set_option linter.unusedSimpArgs false

set_option maxRecDepth 100000 in
set_option maxHeartbeats 8000000 in
theorem fnOutcome_walk (ao : Option Addr) (n c : Nat) (w : World) (hc : CodeIn w (.slice ao n c) n) :
    Calls Try.prog 4 #[.slice ao n c] w fun e w' => e = .returned (.bool true) ∧ Below w.heap.size w w' := by
  have HC := Lib.hid hc
  have HV := Lib.hid (vBig_calls ao n c w)
  clear hc
  by_cases hbig : 65536 < n
  · rw [decide_eq_true hbig] at HV
    go_enter Try.func4, Try.ntmps4
    go_wp2_with fail
    refine HV.out.mono ?_
    rintro e w1 ⟨rfl, rfl⟩
    go_wp2_with fail
    go_ret
    exact ⟨rfl, Below.refl _ _⟩
  rw [decide_eq_false hbig] at HV
  have CD := Lib.hid (drawOutcome_calls ao n c w HC.out (by omega))
  go_enter Try.func4, Try.ntmps4
  go_wp2_with fail
  refine HV.out.mono ?_
  rintro e w0 ⟨rfl, rfl⟩
  go_wp2_with fail
  refine CD.out.mono ?_
  rintro e w1 ⟨a, d, f, rfl, hz, hl, hb⟩
  have hal : Below w1.heap.size w1 (w1.alloc (.cells #[.slice a f.length d] 26)) := (Below.refl _ _).alloc (Nat.le_refl _) _
  have k1 : (w1.alloc (.cells #[.slice a f.length d] 26)).cell? ⟨w1.heap.size, 0, none⟩ = some (.slice a f.length d) := by go_simp
  have hz2 := hz.below hal (Nat.le_refl _)
  have hbx : w1.heap.size < (w1.alloc (.cells #[.slice a f.length d] 26)).heap.size := by simp
  have HB2 := Lib.hid (hb.trans (hal.mono hb.size))
  clear HV CD hz hb hal
  go_upto_region 4 with fail
  generalize (w1.alloc (.cells #[.slice a f.length d] 26)) = w2 at k1 hz2 hbx HB2 ⊢
  generalize w1.heap.size = B at k1 hz2 hbx ⊢
  have HN := Lib.hid fun (W : World) (hW : Below w2.heap.size w2 W) => hz2.below hW (by omega)
  have hbw := HB2.out.size
  have HK := Lib.hid fun (W : World) (hW : Below w2.heap.size w2 W) => box_keep k1 hW
  obtain ⟨ok, hok⟩ : ∃ ok, goodB f = ok := ⟨_, rfl⟩
  obtain ⟨l, hsl⟩ : ∃ l, soloF (f.map downN) (f.length - 1) true = l := ⟨_, rfl⟩
  obtain ⟨r, hsr⟩ : ∃ r, soloF (f.map downN) (f.length - 1) false = r := ⟨_, rfl⟩
  obtain ⟨x, hx⟩ : ∃ x : Int, (if ok then codeOf (!r) (!l) else 0) = x := ⟨_, rfl⟩
  have hxx : (if goodB f then codeOf (!soloF (f.map downN) (f.length - 1) false) (!soloF (f.map downN) (f.length - 1) true) else 0) = x := by rw [hok, hsl, hsr]; exact hx
  have C1 := Lib.hid fun (W : World) (hW : Below w2.heap.size w2 W) => outcomeI_calls (.slice a f.length d) f x ok (Lib.hid hok) (Lib.hid hxx) W _ B (by have := hW.size; omega) (HN.out W hW)
  have C2 := Lib.hid fun (W : World) (hW : Below w2.heap.size w2 W) => outcomeS_calls (.slice a f.length d) f x ok (Lib.hid hok) (Lib.hid hxx) W _ B (by have := hW.size; omega) (HN.out W hW)
  have C3 := Lib.hid fun (W : World) (hW : Below w2.heap.size w2 W) (vz : Value) (lo hi : Nat) (hh : hi ≤ W.heap.size) (hzz : NodesZ W lo hi vz [([], [])]) => compareI_calls (.slice a f.length d) vz f [([], [])] x ok (Lib.hid (by rw [good_zero, Bool.and_true]; exact hok)) (Lib.hid (by rw [good_zero, Bool.and_true, diff_zero, diff_zero]; exact hxx)) W _ B lo hi (by have := hW.size; omega) hh (HN.out W hW) hzz
  have C4 := Lib.hid fun (W : World) (hW : Below w2.heap.size w2 W) => winsMovingI_calls (.slice a f.length d) f true (ok && l) ok (Lib.hid hok) (Lib.hid (by rw [hok, hsl])) W _ B (by have := hW.size; omega) (HN.out W hW)
  have C5 := Lib.hid fun (W : World) (hW : Below w2.heap.size w2 W) => winsMovingI_calls (.slice a f.length d) f false (ok && r) ok (Lib.hid hok) (Lib.hid (by rw [hok, hsr])) W _ B (by have := hW.size; omega) (HN.out W hW)
  have q1 : (x != x) = false := by simp
  have q2 : (ok != ok) = false := by simp
  clear hz2 hok hsl hsr hxx HN
  go_wp2_with fail
  refine (C1.out _ (Below.refl _ _)).mono ?_
  rintro e w3 ⟨rfl, hb3⟩
  have k3 := HK.out _ hb3
  have HB3 := Lib.hid hb3
  clear hb3 k1
  go_wp2_with fail
  refine (C2.out _ HB3.out).mono ?_
  rintro e w4 ⟨rfl, hb4⟩
  have HB4 := Lib.hid (below_viaD HB3.out hb4)
  have k4 := HK.out _ HB4.out
  clear hb4 k3
  cases ok with
  | false =>
    have hx0 : x = 0 := by rw [← hx]; rfl
    subst hx0
    clear C1 C2 C3 C4 C5 hx HK
    go_wp2_with fail
    go_ret
    exact ⟨rfl, HB2.out.trans (HB4.out.mono hbw)⟩
  | true =>
    have hx1 : x = codeOf (!r) (!l) := by rw [← hx]; rfl
    have hd4 : Below w4.heap.size w4 w4.drew := below_drewN (Below.refl _ _) 1
    have hS0 : w4.drew.cell? ⟨B, 0, none⟩ = some (.slice a f.length d) ∧ Below w2.heap.size w2 w4.drew := ⟨k4, below_viaD HB4.out hd4⟩
    go_upto_region 10 with fail
    go_region_held3 (fun W : World => W.cell? ⟨B, 0, none⟩ = some (.slice a f.length d) ∧ Below w2.heap.size w2 W) (first
      | exact hS0
      | (go_split_ands; exact ⟨‹_›, ‹_›⟩)
      | exact hSa
      | exact hSb) (first
      | (go_at_call 18; (with_reducible refine (vZero_calls _).mono ?_); rintro e wa ⟨az, cz, rfl, hzz, hba⟩; have hBa := below_viaD hS0.2 hba; have hSa : wa.cell? ⟨B, 0, none⟩ = some (.slice a f.length d) ∧ Below w2.heap.size w2 wa := ⟨HK.out _ hBa, hBa⟩)
      | (go_at_call 17; (with_reducible refine (C3.out wa hBa (.slice az 1 cz) _ _ (Nat.le_refl _) hzz).mono ?_); rintro e wb ⟨rfl, hbb⟩; have hBb := below_viaD hBa hbb; have hSb : wb.cell? ⟨B, 0, none⟩ = some (.slice a f.length d) ∧ Below w2.heap.size w2 wb := ⟨HK.out _ hBb, hBb⟩))
    all_goals
      have k5 := hSb.1
      have HB5 := Lib.hid hBb
      clear hSb hBb hbb hSa hBa hba hzz hS0 hd4 C1 C2 C3 k4
      go_wp2_with fail
      refine (C4.out _ HB5.out).mono ?_
      rintro e w6 ⟨rfl, hb6⟩
      have HB6 := Lib.hid (below_viaD HB5.out hb6)
      have k6 := HK.out _ HB6.out
      clear hb6 k5
      go_wp2_with fail
      refine (C5.out _ HB6.out).mono ?_
      rintro e w7 ⟨rfl, hb7⟩
      have HB7 := Lib.hid (HB2.out.trans ((below_viaD HB6.out hb7).mono hbw))
      clear hb7 k6 C4 C5 HK
      subst hx1
      clear hx
      cases l <;> cases r <;>
      · simp only [Bool.not_true, Bool.not_false, codeOf, Bool.and_self, Bool.and_true, Bool.and_false, Bool.true_and, if_true, if_false, Bool.false_eq_true] at *
        go_wp2_with fail
        go_ret
        exact ⟨rfl, HB7.out⟩

end Go.Proofs.Ytiacgcpcgabdoaa
