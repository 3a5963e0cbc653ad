/- The reference's reduced form. -/
import Derived.Test.YtlblkmhiildgeaaDoorDyOrder
namespace Go.Proofs.YtlblkmhiildgeaaDoor
open Go.RowKit

theorem tdiv2_eq {t : Int} (h : t % 2 = 0) : t.tdiv 2 = t / 2 := Int.tdiv_eq_ediv_of_dvd (Int.dvd_iff_emod_eq_zero.2 h)

set_option maxHeartbeats 400000 in
theorem l2Make_calls (t : Int) (p : Nat) (w : World) (h1 : -4000000000000000000 ≤ t) (h2 : t ≤ 4000000000000000000) (hp : p ≤ 1000) : Calls Tryd.prog 49 #[.int .i64 t, .int .i64 p] w fun e w' => e = .returned (.agg #[.int .i64 ((mkD t p).1), .int .i64 ((mkD t p).2)]) ∧ Below w.heap.size w w' := by
  go_enter Tryd.func49, Tryd.ntmps49
  go_wp2
  go_loop [0, 1] (fun a b => ∃ (s : Int) (q : Nat), a = .int .i64 s ∧ b = .int .i64 q ∧ Hid (mkD s q = mkD t p) ∧ q ≤ p ∧ -4000000000000000000 ≤ s ∧ s ≤ 4000000000000000000) (fun _ b => (intOf b).toNat)
  case atStart => exact ⟨t, p, rfl, rfl, Lib.hid rfl, Nat.le_refl _, h1, h2⟩
  case round =>
    obtain ⟨s, q, rfl, rfl, hm, hq, b1, b2⟩ := hrel
    clear h1 h2
    by_cases h0 : 0 < q
    · by_cases he : s % 2 = 0
      · have e1 := tmod2_eq he
        have e2 := tdiv2_eq he
        have e3 : IntKind.i64.wrap (s / 2) = s / 2 := IntWalk.i64_in _ (by omega)
        have hm2 : Hid (mkD (s / 2) (q - 1) = mkD t p) := by
          rw [← hm.out]
          obtain ⟨q', rfl⟩ : ∃ q', q = q' + 1 := ⟨q - 1, by omega⟩
          exact Lib.hid (by rw [mkD, if_pos he]; rfl)
        clear hm he
        go_wp2
        go_round
        case rel => exact ⟨s / 2, q - 1, by go_num, by go_num, hm2, by omega, by omega, by omega⟩
        case measure => simp [intOf]; omega
      · have e1 := tmod2_ne he
        have hm2 : Hid (mkD t p = (s, q)) := by
          rw [← hm.out]
          exact Lib.hid (mkD_canon (Or.inr he))
        clear hm he
        go_wp2
        refine bodyPost_ret (v := .agg #[.int .i64 s, .int .i64 q]) (by simp [*, results, Tryd.results49, go_sem]) rfl ⟨by rw [hm2.out], ?_⟩
        (repeat' (first | exact Below.refl _ _ | refine Below.setCell ?_ ?_ _ | refine Below.alloc ?_ ?_ _)) <;> (first | omega | (simp; done) | (simp; omega))
    · obtain rfl : q = 0 := by omega
      have hm2 : Hid (mkD t p = (s, 0)) := by
        rw [← hm.out]
        exact Lib.hid rfl
      clear hm
      go_wp2
      refine bodyPost_ret (v := .agg #[.int .i64 s, .int .i64 0]) (by simp [*, results, Tryd.results49, go_sem]) rfl ⟨by rw [hm2.out]; rfl, ?_⟩
      (repeat' (first | exact Below.refl _ _ | refine Below.setCell ?_ ?_ _ | refine Below.alloc ?_ ?_ _)) <;> (first | omega | (simp; done) | (simp; omega))

end Go.Proofs.YtlblkmhiildgeaaDoor
