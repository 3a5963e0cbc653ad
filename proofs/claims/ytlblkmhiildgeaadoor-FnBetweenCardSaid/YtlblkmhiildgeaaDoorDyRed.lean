/- The number of zeros at a number's end; the program's reduced form. -/
import Derived.Test.YtlblkmhiildgeaaDoorDyPlain
import Derived.Laws.Bits64b
import Derived.Shelf.Spec.TrailingZeros
namespace Go.Proofs.YtlblkmhiildgeaaDoor
open Go.RowKit

/-- the library's table of places lies as it was laid -/
def DeBr (w : World) : Prop := TabAt 1 Lib.deBruijn64tab w
theorem DeBr.below {w w' : World} (h : DeBr w) (hb : Below w.heap.size w w') : DeBr w' := fun j hj => by
  have h0 := h j hj
  refine (hb.cell (p := ⟨1, j, none⟩) ?_).trans h0
  rcases Nat.lt_or_ge 1 w.heap.size with h1 | h1
  · exact h1
  · have h2 : w.heap[1]? = none := Array.getElem?_eq_none h1
    simp [World.cell?, h2] at h0

set_option maxHeartbeats 1000000 in
theorem tz64_at (x k idx : Nat) (w : World) (hx0 : ((x : Int) == 0) = false)
    (key : IntKind.u64.wrap (bits BinOp.and IntKind.u64 (x : Int) (IntKind.u64.wrap (-(x : Int))) * 285870213051353865) / 288230376151711744 = (idx : Int))
    (hi : idx < 64) (hk : k < 64) (hcell : w.cell? ⟨1, idx, none⟩ = some (.int .u8 k)) :
    Calls Tryd.prog 78 #[.int .u64 x] w fun e w' => e = .returned (.int .i64 k) ∧ w = w' := by
  go_enter Tryd.func78, Tryd.ntmps78
  go_wp2_with (simp only [key])
  go_ret
  exact ⟨rfl, rfl⟩

theorem tz64_nil (w : World) : Calls Tryd.prog 78 #[.int .u64 0] w fun e w' => e = .returned (.int .i64 64) ∧ w = w' := by
  go_enter Tryd.func78, Tryd.ntmps78
  go_wp2
  go_ret
  exact ⟨rfl, rfl⟩

theorem tz64_calls (x : Nat) (hx : x < 18446744073709551616) (w : World) (hT : DeBr w) :
    Calls Tryd.prog 78 #[.int .u64 x] w fun e w' => e = .returned (.int .i64 (Lib.ctz 64 x)) ∧ w = w' := by
  by_cases hx0 : x = 0
  · subst hx0
    exact tz64_nil w
  · obtain ⟨hlow, hk⟩ := Lib.lowest_bit 64 x hx0 hx
    obtain ⟨hi, htab⟩ := Lib.deBruijn64_at _ hk
    have hcell := hT _ hi
    rw [htab] at hcell
    exact tz64_at x _ _ w (by simp; omega) (tz64_key x _ hx hx0 hlow) hi hk hcell

theorem tz_calls (x : Nat) (hx : x < 18446744073709551616) (w : World) (hT : DeBr w) :
    Calls Tryd.prog 67 #[.int .u64 x] w fun e w' => e = .returned (.int .i64 (Lib.ctz 64 x)) ∧ w = w' := by
  have HC := Lib.hid (tz64_calls x hx w hT)
  clear hT
  go_enter Tryd.func67, Tryd.ntmps67
  go_wp2_with fail
  refine HC.out.mono ?_
  rintro e w' ⟨rfl, rfl⟩
  go_wp2_with fail
  go_ret
  exact ⟨rfl, rfl⟩

theorem red_lo_true (t : Int) (p k x : Nat) (w : World) (hx : IntKind.u64.wrap t = (x : Int)) (hx2 : x < 18446744073709551616) (hk : Lib.ctz 64 x = k) (hT : DeBr w) (hp : p ≤ 64) (h : p ≤ k) (hg : goodD (t / 2 ^ p) (0) = true) :
    Calls Tryd.prog 39 #[.int .i64 t, .int .i64 p] w fun e w' => e = .returned (.tuple #[.agg #[.int .i64 (t / 2 ^ p), .int .i64 0], .bool true]) ∧ Below w.heap.size w w' := by
  have HC : ∀ W, Below w.heap.size w W → Hid (Calls Tryd.prog 67 #[.int .u64 x] W fun e w' => e = .returned (.int .i64 k) ∧ W = w') := fun W hb => Lib.hid (hk ▸ tz_calls x hx2 W (hT.below hb))
  have HG := Lib.hid hg
  clear hk hT hg
  have a0 : (0 : Int) ≤ p := by omega
  have a1 : (p : Int) ≤ 64 := by omega
  have a2 : (p : Int).toNat = p := by omega
  have a3 : ¬ (k : Int) < p := by omega
  have a4 : ¬ (p : Int) < 0 := by omega
  go_enter Tryd.func39, Tryd.ntmps39
  go_wp2_with fail
  refine (HC _ ((Below.refl _ _).alloc (Nat.le_refl _) _)).out.mono ?_
  rintro e w1 ⟨rfl, rfl⟩
  have hP0 := pair_start w (.int .i64 0) (.int .i64 0) (.int .i64 (t / 2 ^ p)) (.int .i64 (0)) 25
  go_wp2_with fail
  refine ((goodI_calls _ _ _).mono fun e w' h => (HG.out ▸ h : _ ∧ _)).mono ?_
  rintro e w1 ⟨rfl, hb⟩
  have hP1 := pair_next hb hP0
  have hQ := hP1
  obtain ⟨c10, c11, c12, c13, c14, HB1⟩ := hQ
  have hf1 := (bcell hb).2
  clear hb HB1
  go_wp2_with fail
  refine bodyPost_ret (v := .tuple #[.agg #[.int .i64 (t / 2 ^ p), .int .i64 0], .bool true]) (by simp [*, results, Tryd.results39, go_sem]) rfl ⟨rfl, ?_⟩
  exact (hP1.2.2.2.2.2.setCell (Nat.le_refl _) _).setCell (Nat.le_refl _) _

theorem red_hi_true (t : Int) (p k x : Nat) (w : World) (hx : IntKind.u64.wrap t = (x : Int)) (hx2 : x < 18446744073709551616) (hk : Lib.ctz 64 x = k) (hT : DeBr w) (hp : p ≤ 64) (h : k < p) (hg : goodD (t / 2 ^ k) ((p : Int) - k) = true) :
    Calls Tryd.prog 39 #[.int .i64 t, .int .i64 p] w fun e w' => e = .returned (.tuple #[.agg #[.int .i64 (t / 2 ^ k), .int .i64 ((p : Int) - k)], .bool true]) ∧ Below w.heap.size w w' := by
  have HC : ∀ W, Below w.heap.size w W → Hid (Calls Tryd.prog 67 #[.int .u64 x] W fun e w' => e = .returned (.int .i64 k) ∧ W = w') := fun W hb => Lib.hid (hk ▸ tz_calls x hx2 W (hT.below hb))
  have HG := Lib.hid hg
  clear hk hT hg
  have a0 : (0 : Int) ≤ k := by omega
  have a1 : (k : Int) ≤ 64 := by omega
  have a2 : (k : Int).toNat = k := by omega
  have a3 : (k : Int) < p := by omega
  have a4 : ¬ (k : Int) < 0 := by omega
  go_enter Tryd.func39, Tryd.ntmps39
  go_wp2_with fail
  refine (HC _ ((Below.refl _ _).alloc (Nat.le_refl _) _)).out.mono ?_
  rintro e w1 ⟨rfl, rfl⟩
  have hP0 := pair_start w (.int .i64 0) (.int .i64 0) (.int .i64 (t / 2 ^ k)) (.int .i64 ((p : Int) - k)) 25
  go_wp2_with fail
  refine ((goodI_calls _ _ _).mono fun e w' h => (HG.out ▸ h : _ ∧ _)).mono ?_
  rintro e w1 ⟨rfl, hb⟩
  have hP1 := pair_next hb hP0
  have hQ := hP1
  obtain ⟨c10, c11, c12, c13, c14, HB1⟩ := hQ
  have hf1 := (bcell hb).2
  clear hb HB1
  go_wp2_with fail
  refine bodyPost_ret (v := .tuple #[.agg #[.int .i64 (t / 2 ^ k), .int .i64 ((p : Int) - k)], .bool true]) (by simp [*, results, Tryd.results39, go_sem]) rfl ⟨rfl, ?_⟩
  exact (hP1.2.2.2.2.2.setCell (Nat.le_refl _) _).setCell (Nat.le_refl _) _

theorem red_lo_false (t : Int) (p k x : Nat) (w : World) (hx : IntKind.u64.wrap t = (x : Int)) (hx2 : x < 18446744073709551616) (hk : Lib.ctz 64 x = k) (hT : DeBr w) (hp : p ≤ 64) (h : p ≤ k) (hg : goodD (t / 2 ^ p) (0) = false) :
    Calls Tryd.prog 39 #[.int .i64 t, .int .i64 p] w fun e w' => e = .returned (.tuple #[.agg #[.int .i64 0, .int .i64 0], .bool false]) ∧ Below w.heap.size w w' := by
  have HC : ∀ W, Below w.heap.size w W → Hid (Calls Tryd.prog 67 #[.int .u64 x] W fun e w' => e = .returned (.int .i64 k) ∧ W = w') := fun W hb => Lib.hid (hk ▸ tz_calls x hx2 W (hT.below hb))
  have HG := Lib.hid hg
  clear hk hT hg
  have a0 : (0 : Int) ≤ p := by omega
  have a1 : (p : Int) ≤ 64 := by omega
  have a2 : (p : Int).toNat = p := by omega
  have a3 : ¬ (k : Int) < p := by omega
  have a4 : ¬ (p : Int) < 0 := by omega
  go_enter Tryd.func39, Tryd.ntmps39
  go_wp2_with fail
  refine (HC _ ((Below.refl _ _).alloc (Nat.le_refl _) _)).out.mono ?_
  rintro e w1 ⟨rfl, rfl⟩
  have hP0 := pair_start w (.int .i64 0) (.int .i64 0) (.int .i64 (t / 2 ^ p)) (.int .i64 (0)) 25
  go_wp2_with fail
  refine ((goodI_calls _ _ _).mono fun e w' h => (HG.out ▸ h : _ ∧ _)).mono ?_
  rintro e w1 ⟨rfl, hb⟩
  have hP1 := pair_next hb hP0
  have hQ := hP1
  obtain ⟨c10, c11, c12, c13, c14, HB1⟩ := hQ
  have hf1 := (bcell hb).2
  clear hb HB1
  go_wp2_with fail
  refine bodyPost_ret (v := .tuple #[.agg #[.int .i64 0, .int .i64 0], .bool false]) (by simp [*, results, Tryd.results39, go_sem]) rfl ⟨rfl, ?_⟩
  exact (hP1.2.2.2.2.2.setCell (Nat.le_refl _) _).setCell (Nat.le_refl _) _

theorem red_hi_false (t : Int) (p k x : Nat) (w : World) (hx : IntKind.u64.wrap t = (x : Int)) (hx2 : x < 18446744073709551616) (hk : Lib.ctz 64 x = k) (hT : DeBr w) (hp : p ≤ 64) (h : k < p) (hg : goodD (t / 2 ^ k) ((p : Int) - k) = false) :
    Calls Tryd.prog 39 #[.int .i64 t, .int .i64 p] w fun e w' => e = .returned (.tuple #[.agg #[.int .i64 0, .int .i64 0], .bool false]) ∧ Below w.heap.size w w' := by
  have HC : ∀ W, Below w.heap.size w W → Hid (Calls Tryd.prog 67 #[.int .u64 x] W fun e w' => e = .returned (.int .i64 k) ∧ W = w') := fun W hb => Lib.hid (hk ▸ tz_calls x hx2 W (hT.below hb))
  have HG := Lib.hid hg
  clear hk hT hg
  have a0 : (0 : Int) ≤ k := by omega
  have a1 : (k : Int) ≤ 64 := by omega
  have a2 : (k : Int).toNat = k := by omega
  have a3 : (k : Int) < p := by omega
  have a4 : ¬ (k : Int) < 0 := by omega
  go_enter Tryd.func39, Tryd.ntmps39
  go_wp2_with fail
  refine (HC _ ((Below.refl _ _).alloc (Nat.le_refl _) _)).out.mono ?_
  rintro e w1 ⟨rfl, rfl⟩
  have hP0 := pair_start w (.int .i64 0) (.int .i64 0) (.int .i64 (t / 2 ^ k)) (.int .i64 ((p : Int) - k)) 25
  go_wp2_with fail
  refine ((goodI_calls _ _ _).mono fun e w' h => (HG.out ▸ h : _ ∧ _)).mono ?_
  rintro e w1 ⟨rfl, hb⟩
  have hP1 := pair_next hb hP0
  have hQ := hP1
  obtain ⟨c10, c11, c12, c13, c14, HB1⟩ := hQ
  have hf1 := (bcell hb).2
  clear hb HB1
  go_wp2_with fail
  refine bodyPost_ret (v := .tuple #[.agg #[.int .i64 0, .int .i64 0], .bool false]) (by simp [*, results, Tryd.results39, go_sem]) rfl ⟨rfl, ?_⟩
  exact (hP1.2.2.2.2.2.setCell (Nat.le_refl _) _).setCell (Nat.le_refl _) _

/-- The program's reduced form, where it is good. -/
theorem reduced_calls (t : Int) (p : Nat) (w : World) (hp : p ≤ 24) (hT : DeBr w) :
    Calls Tryd.prog 39 #[.int .i64 t, .int .i64 p] w fun e w' => e = .returned (.tuple #[.agg #[.int .i64 (finD (mkD t p)).1, .int .i64 (finD (mkD t p)).2.1], .bool (finD (mkD t p)).2.2]) ∧ Below w.heap.size w w' := by
  obtain ⟨x, hx⟩ := Int.eq_ofNat_of_zero_le (Int.emod_nonneg t (by decide : (18446744073709551616 : Int) ≠ 0))
  have hx2 : x < 18446744073709551616 := by omega
  have hw : IntKind.u64.wrap t = (x : Int) := by rw [IntKind.wrap_u64]; exact hx
  have hm := mkD_tz t p x (by omega) hx.symm
  by_cases h : p ≤ Lib.ctz 64 x
  · rw [Nat.min_eq_left h] at hm
    rw [hm]
    unfold finD
    have e : ((p - p : Nat) : Int) = 0 := by omega
    by_cases hg : goodD (t / 2 ^ p) 0 = true
    · rw [if_pos (by rw [e]; exact hg)]
      simp only [e]
      exact red_lo_true t p _ x w hw hx2 rfl hT (by omega) h hg
    · rw [if_neg (by rw [e]; exact hg)]
      exact red_lo_false t p _ x w hw hx2 rfl hT (by omega) h (by simpa using hg)
  · rw [Nat.min_eq_right (by omega)] at hm
    rw [hm]
    unfold finD
    have e : ((p - Lib.ctz 64 x : Nat) : Int) = (p : Int) - (Lib.ctz 64 x : Nat) := by omega
    by_cases hg : goodD (t / 2 ^ (Lib.ctz 64 x)) ((p : Int) - (Lib.ctz 64 x : Nat)) = true
    · rw [if_pos (by rw [e]; exact hg)]
      simp only [e]
      exact red_hi_true t p _ x w hw hx2 rfl hT (by omega) (by omega) hg
    · rw [if_neg (by rw [e]; exact hg)]
      exact red_hi_false t p _ x w hw hx2 rfl hT (by omega) (by omega) (by simpa using hg)

end Go.Proofs.YtlblkmhiildgeaaDoor
