/- The outcome of a contest, at two places and at the last ones. -/
import Derived.Test.YtjllpcnbahdmhaaOrStart
namespace Go.Proofs.Ytjllpcnbahdmhaa
open Go.RowKit Go.Lib
set_option linter.unusedVariables false
set_option linter.unusedSimpArgs false

set_option maxHeartbeats 1000000 in
theorem outcomeAt_calls (base P g n cap : Nat) (A B : List Nd) (va vb : Value) (hA : Under A) (hB : Under B) (hAl : A.length ≤ 1000) (hBl : B.length ≤ 1000) (i j : Nat) (hi : i < A.length) (hj : j < B.length) (w : World)
    (h : Ct w base P g n cap A B va vb) (cs : List Int) (hw : Wn A B cs) (hr : RowV base g n cap cs w) (r l : Bool) (hl : Hid (winF A B i j true = l)) (hres : Hid (winF A B i j false = r)) :
    Calls Try.prog 111 #[.pointer (some ⟨P, 0, none⟩), .int .i64 (i : Int), .int .i64 (j : Int)] w fun e w' => e = .returned (.int .i64 (codeOf (!r) (!l))) ∧ Asked base g n cap A B w w' := by
  have C := Lib.hid <| (wins_calls base P g n cap A B va vb hA hB hAl hBl (i + j + 1) i j true cs w (by omega) hi hj h hw hr).mono fun e w' hp => (⟨by rw [← hl.out]; exact hp.1, hp.2⟩ : e = .returned (.bool l) ∧ Asked base g n cap A B w w')
  have C2 := Lib.hid fun w4 (ha : Asked base g n cap A B w w4) => show Calls Try.prog 101 #[.pointer (some ⟨P, 0, none⟩), .int .i64 (i : Int), .int .i64 (j : Int), .bool false] w4 fun e w' => e = .returned (.bool r) ∧ Asked base g n cap A B w w' from by
    have hc := h.only ha.only
    have ha2 := ha
    obtain ⟨cs', hw', hr', ho'⟩ := ha
    exact (wins_calls base P g n cap A B va vb hA hB hAl hBl (i + j + 1) i j false cs' w4 (by omega) hi hj hc hw' hr').mono fun e w' hp => ⟨by rw [← hres.out]; exact hp.1, ha2.trans hp.2⟩
  have R := Lib.hid (code_win l r)
  clear h hw hr hl hres hA hB hi hj
  cases l <;> cases r <;>
  · go_enter Try.func111, Try.ntmps111
    go_wp2_with fail
    refine C.out.mono ?_
    rintro e w4 ⟨rfl, ha⟩
    have C3 := Lib.hid (C2.out w4 ha)
    clear ha
    go_wp2_with fail
    refine C3.out.mono ?_
    rintro e w5 ⟨rfl, ha⟩
    have HA := Lib.hid ha
    clear ha
    go_wp2_with fail
    go_ret
    exact ⟨ret_int (by rw [R.out]; rfl), HA.out⟩

set_option maxHeartbeats 1000000 in
theorem outcome_calls (base P g n cap : Nat) (A B : List Nd) (va vb : Value) (hA : Under A) (hB : Under B) (hAl : A.length ≤ 1000) (hBl : B.length ≤ 1000) (w : World) (h0 : 0 < A.length) (h1 : 0 < B.length)
    (h : Ct w base P g n cap A B va vb) (cs : List Int) (hw : Wn A B cs) (hr : RowV base g n cap cs w) (r l : Bool) (hl : Hid (winF A B (A.length - 1) (B.length - 1) true = l)) (hres : Hid (winF A B (A.length - 1) (B.length - 1) false = r)) :
    Calls Try.prog 72 #[.pointer (some ⟨P, 0, none⟩)] w fun e w' => e = .returned (.int .i64 (codeOf (!r) (!l))) ∧ Asked base g n cap A B w w' := by
  obtain ⟨a1, b1, rfl⟩ : ∃ ao c, va = .slice ao A.length c := by obtain ⟨ao, c, e, _⟩ := h.na; rw [List.length_map] at e; exact ⟨ao, c, e⟩
  obtain ⟨a2, b2, rfl⟩ : ∃ ao c, vb = .slice ao B.length c := by obtain ⟨ao, c, e, _⟩ := h.nb; rw [List.length_map] at e; exact ⟨ao, c, e⟩
  have k0 := h.c0
  have k1 := h.c1
  have hd : Below w.heap.size w w.drew := below_drewN (Below.refl w.heap.size w) 1
  have C := Lib.hid <| (outcomeAt_calls base P g n cap A B _ _ hA hB hAl hBl (A.length - 1) (B.length - 1) (by omega) (by omega) w.drew (h.below hd) cs hw (hr.below hd) r l hl hres).mono fun e w' hp => (⟨hp.1, Asked.trans ⟨cs, hw, hr.below hd, Only.of_below hd⟩ hp.2⟩ : e = .returned (.int .i64 (codeOf (!r) (!l))) ∧ Asked base g n cap A B w w')
  have e1 : (A.length : Int) - 1 = ((A.length - 1 : Nat) : Int) := by omega
  have e2 : (B.length : Int) - 1 = ((B.length - 1 : Nat) : Int) := by omega
  have q1 : (A.length : Int) ≤ 1000 := by omega
  have q2 : (B.length : Int) ≤ 1000 := by omega
  have w1 : IntKind.i64.wrap ((A.length : Int) - 1) = ((A.length - 1 : Nat) : Int) := by rw [IntWalk.i64_in _ (by omega), e1]
  have w2 : IntKind.i64.wrap ((B.length : Int) - 1) = ((B.length - 1 : Nat) : Int) := by rw [IntWalk.i64_in _ (by omega), e2]
  clear h hw hr hres hl hA hB hd e1 e2
  go_enter Try.func72, Try.ntmps72
  go_wp2_with fail
  go_region_with (go_at_call 111; (with_reducible refine C.out.mono ?_); rintro e w4 ⟨rfl, ha⟩; have HA := Lib.hid ha; clear ha)
  all_goals
    go_wp2_with fail
    go_ret
    exact ⟨rfl, HA.out⟩

end Go.Proofs.Ytjllpcnbahdmhaa
