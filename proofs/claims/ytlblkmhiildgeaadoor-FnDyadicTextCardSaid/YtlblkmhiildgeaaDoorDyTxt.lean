/- The texts of numbers, by both programs. -/
import Derived.Test.YtlblkmhiildgeaaDoorDyText
import Derived.Test.YtlblkmhiildgeaaDoorDyWorld
import Derived.Deep.RegionHeld3
import Derived.Test.YtlblkmhiildgeaaDoorL1Num
import Derived.Test.YtlblkmhiildgeaaDoorItoa
namespace Go.Proofs.YtlblkmhiildgeaaDoor
open Go.RowKit
set_option linter.unusedVariables false

set_option maxHeartbeats 400000 in
theorem textI_any (t : Int) (p : Nat) (w : World) (h1 : -1000000 ≤ t) (h2 : t ≤ 1000000) (hp : p ≤ 16) (hT : PowIs w) : Calls Tryd.prog 55 #[.agg #[.int .i64 t, .int .i64 p]] w fun e w' => e = .returned (.string (bt (textD t p))) ∧ Below w.heap.size w w' := by
  have HA : ∀ W, Below w.heap.size w W → Hid (Calls Tryd.prog 72 #[.int .i64 t] W fun e w' => e = .returned (.string (bt (Lib.itoa t))) ∧ Below W.heap.size W w') := fun W hb => Lib.hid (itoa_calls t (by omega) (by omega) W (hT.below hb))
  by_cases hp0 : p = 0
  · subst hp0
    rw [← bt_text0]
    clear hT
    generalize bt (Lib.itoa t) = u at HA ⊢
    have hP0 := one_start w (.int .i64 t) (.int .i64 0) 25
    go_enter Tryd.func55, Tryd.ntmps55
    go_wp2_with fail
    refine ((HA _ hP0.2.2.2).out).mono ?_
    rintro e w1 ⟨rfl, hb⟩
    have hP1 := one_next hb hP0
    have hQ := hP1
    obtain ⟨c10, c11, c12, HB1⟩ := hQ
    have hf1 := (bcell hb).2
    clear hb HB1
    go_wp2_with fail
    go_ret
    exact ⟨rfl, hP1.2.2.2⟩
  · have hb := pow_bd p hp
    have HB : ∀ W, Below w.heap.size w W → Hid (Calls Tryd.prog 72 #[.int .i64 (2 ^ p)] W fun e w' => e = .returned (.string (bt (Lib.itoa (2 ^ p)))) ∧ Below W.heap.size W w') := fun W hb => Lib.hid (itoa_calls _ (by omega) (by omega) W (hT.below hb))
    have HR := Lib.hid (bt_text t p hp0)
    have z1 := bt_len (itoa_len t (by omega) (by omega))
    have z2 := bt_len (itoa_len (2 ^ p) (by omega) (by omega))
    have q0 : ((p : Int) == 0) = false := by rw [beq_eq_false_iff_ne]; omega
    have q1 : (0 : Int) ≤ p := by omega
    have q2 : (p : Int) ≤ 64 := by omega
    have q3 : (p : Int).toNat = p := by omega
    have q4 : IntKind.i64.wrap (2 ^ p) = 2 ^ p := IntWalk.i64_in _ (by omega)
    clear hT hp0 hb
    generalize bt (Lib.itoa t) = u at HA HR z1
    generalize bt (Lib.itoa (2 ^ p)) = v at HB HR z2
    generalize bt (textD t p) = r at HR ⊢
    have k1 : ¬ 9223372036854775807 < u.size + 1 := by omega
    have k2 : ¬ 9223372036854775807 < u.size + 1 + v.size := by omega
    have hS0 := one_drew (one_start w (.int .i64 t) (.int .i64 p) 25)
    go_enter Tryd.func55, Tryd.ntmps55
    go_wp2_with fail
    go_region_held3 (fun w' : World => w'.cell? ⟨w.heap.size, 0, none⟩ = some (.int .i64 t) ∧ w'.cell? ⟨w.heap.size, 1, none⟩ = some (.int .i64 p) ∧ w.heap.size < w'.heap.size ∧ Below w.heap.size w w') (first | exact hS0 | (go_split_ands; exact ⟨‹_›, ‹_›, ‹_›, ‹_›⟩) | (go_split_ands; exact one_next hbb ⟨‹_›, ‹_›, ‹_›, ‹_›⟩) | (go_split_ands; exact one_next hba ⟨‹_›, ‹_›, ‹_›, ‹_›⟩) | fail) (first | (go_at_call 72; (with_reducible refine ((HA _ ?_).out).mono ?_); (go_split_ands; assumption); rintro e wa ⟨rfl, hba⟩; have hr := bcell hba; have hz := hba.size; (try simp at hz)) | (go_at_call 72; (with_reducible refine ((HB _ ?_).out).mono ?_); (go_split_ands; assumption); rintro e wb ⟨rfl, hbb⟩; have hr := bcell hbb; have hz := hbb.size; (try simp at hz)))
    all_goals
      go_split_ands
      go_wp2_with fail
      go_ret
      exact ⟨by rw [← HR.out]; rfl, by assumption⟩

theorem numS_any (n : Int) (w : World) (h : -9223372036854775 ≤ n) (h' : n ≤ 9223372036854775) : Calls Tryd.prog 64 #[.int .i64 n] w fun e w' => e = .returned (.string (bt (Lib.itoa n))) ∧ ∃ m, w' = w.drewN m := l1Num_any n w h h'

set_option maxHeartbeats 400000 in
theorem textS_any (t : Int) (p : Nat) (w : World) (h1 : -1000000 ≤ t) (h2 : t ≤ 1000000) (hp : p ≤ 16) : Calls Tryd.prog 56 #[.agg #[.int .i64 t, .int .i64 p]] w fun e w' => e = .returned (.string (bt (textD t p))) ∧ Below w.heap.size w w' := by
  have HA : ∀ W, Hid (Calls Tryd.prog 64 #[.int .i64 t] W fun e w' => e = .returned (.string (bt (Lib.itoa t))) ∧ ∃ m, w' = W.drewN m) := fun W => Lib.hid (numS_any t W (by omega) (by omega))
  by_cases hp0 : p = 0
  · subst hp0
    rw [← bt_text0]
    generalize bt (Lib.itoa t) = u at HA ⊢
    go_enter Tryd.func56, Tryd.ntmps56
    go_wp2_with fail
    refine (HA _).out.mono ?_
    rintro e w1 ⟨rfl, m, rfl⟩
    go_wp2_with fail
    go_ret
    exact ⟨rfl, Below.drawn ((Below.refl _ _).alloc (Nat.le_refl _) _) _⟩
  · have hb := pow_bd p hp
    have HB : ∀ W, Hid (Calls Tryd.prog 64 #[.int .i64 (2 ^ p)] W fun e w' => e = .returned (.string (bt (Lib.itoa (2 ^ p)))) ∧ ∃ m, w' = W.drewN m) := fun W => Lib.hid (numS_any _ W (by omega) (by omega))
    have HR := Lib.hid (bt_text t p hp0)
    have z1 := bt_len (itoa_len t (by omega) (by omega))
    have z2 := bt_len (itoa_len (2 ^ p) (by omega) (by omega))
    have q0 : ((p : Int) == 0) = false := by rw [beq_eq_false_iff_ne]; omega
    have q1 : (0 : Int) ≤ p := by omega
    have q2 : (p : Int) ≤ 64 := by omega
    have q3 : (p : Int).toNat = p := by omega
    have q4 : IntKind.i64.wrap (2 ^ p) = 2 ^ p := IntWalk.i64_in _ (by omega)
    have q5 : IntKind.u64.wrap (p : Int) = p := by rw [IntKind.wrap_u64]; omega
    clear hp0 hb
    generalize bt (Lib.itoa t) = u at HA HR z1
    generalize bt (Lib.itoa (2 ^ p)) = v at HB HR z2
    generalize bt (textD t p) = r at HR ⊢
    have k1 : ¬ 9223372036854775807 < u.size + 1 := by omega
    have k2 : ¬ 9223372036854775807 < u.size + 1 + v.size := by omega
    go_enter Tryd.func56, Tryd.ntmps56
    go_wp2_with fail
    go_quiet ((go_at_call 64; first | (with_reducible exact Calls.quiet_of (HA _).out) | (with_reducible exact Calls.quiet_of (HB _).out)))
    go_wp2_with fail
    go_ret
    exact ⟨by rw [← HR.out]; rfl, Below.drawn ((Below.refl _ _).alloc (Nat.le_refl _) _) _⟩

end Go.Proofs.YtlblkmhiildgeaaDoor
