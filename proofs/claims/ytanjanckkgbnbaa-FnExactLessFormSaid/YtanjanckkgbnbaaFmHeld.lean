/- The laws' marks of a form, read again. -/
import Derived.Test.YtanjanckkgbnbaaFmMark
namespace Go.Proofs.Ytanjanckkgbnbaa
set_option linter.unusedVariables false
set_option linter.unusedSimpArgs false
open Go.RowKit

theorem markF_get : ∀ (f : List Nz) (k : Int) (j : Nat) (nd : Nz), f[j]? = some nd → (markF f k).1[j]? = some (nums (markF (f.take j) k).2 nd.1.length, nums ((markF (f.take j) k).2 + (nd.1.length : Int)) nd.2.length)
  | [], k, j, nd, h => by simp at h
  | n0 :: f, k, 0, nd, h => by
    simp at h
    subst h
    simp [markF]
  | n0 :: f, k, j + 1, nd, h => by
    rw [List.getElem?_cons_succ] at h
    have ih := markF_get f (k + (n0.1.length : Int) + (n0.2.length : Int)) j nd h
    simp only [markF, List.getElem?_cons_succ, List.take_succ_cons]
    exact ih

set_option maxHeartbeats 1000000 in
theorem heldN_calls (v : Value) (f : List Nz) (k : Int) (w : World) (lo hi : Nat) (h : NodesZ w lo hi v (markF f k).1) (h0 : 0 ≤ k) (h1 : (markF f k).2 ≤ 1000000000) :
    Calls Try.prog 39 #[v, .int .i64 k] w fun e w' => e = .returned (.int .i64 (markF f k).2) ∧ w' = w := by
  have H := Lib.hid h
  obtain ⟨ao, c, rfl, hcap, _⟩ := h
  rw [markF_len] at H hcap ⊢
  go_enter Try.func39, Try.ntmps39
  go_wp2
  go_loopw [1, 5] (fun kk i wr => ∃ j : Nat, j ≤ f.length ∧ kk = .int .i64 (markF (f.take j) k).2 ∧ i = .int .i64 (j : Int) ∧ wr = w) (fun _ i _ => f.length - (intOf i).toNat)
  case atStart => exact ⟨0, Nat.zero_le _, by simp [markF], rfl, by first | trivial | rfl⟩
  case round =>
    obtain ⟨j, hj, rfl, rfl, rfl⟩ := hrel
    by_cases hjl : j < f.length
    · obtain ⟨nd, hnd⟩ := lt_get hjl
      have e1 := markF_take f k j nd hnd
      have b2 := (markF_le f k j).1
      have b3 := (markF_le f k (j + 1)).2
      have hg := markF_get f k j nd hnd
      generalize (markF (f.take j) k).2 = K at *
      obtain ⟨ao', c', e', _, hn⟩ := H.out
      rw [markF_len] at e'
      obtain ⟨b, off, v1, v2, rfl, _, _, p1, p2, i1, i2⟩ := hn j _ hg
      obtain ⟨q1, _, q3⟩ := slice_inj e'
      subst q1 q3
      have HE := Lib.hid e1
      have C1 := Lib.hid (heldI_calls v1 K nd.1.length _ lo hi i1 (by omega) (by omega))
      have C2 := Lib.hid (heldI_calls v2 (K + (nd.1.length : Int)) nd.2.length _ lo hi i2 (by omega) (by omega))
      have n1 : ¬ K + (nd.1.length : Int) < 0 := by omega
      have n2 : ¬ K + (nd.1.length : Int) + (nd.2.length : Int) < 0 := by omega
      clear H hn e' i1 i2 e1 hg
      have b0 : (0 : Int) ≤ j := by omega
      have b1 : (j : Int) < f.length := by omega
      go_wp2_with fail
      refine C1.out.mono ?_
      rintro e w1 ⟨rfl, rfl⟩
      go_wp2_with fail
      refine C2.out.mono ?_
      rintro e w2 ⟨rfl, rfl⟩
      go_wp2_with fail
      go_round
      case rel => exact ⟨j + 1, by omega, by rw [HE.out], by go_num, by first | trivial | rfl⟩
      case measure => simp [intOf]; omega
    · have hje : j = f.length := by omega
      subst hje
      rw [List.take_length]
      clear H
      go_wp2
      go_ret
      exact ⟨rfl, rfl⟩

theorem heldForm_calls (v : Value) (f : List Nz) (k : Int) (w : World) (lo hi : Nat) (hh : hi ≤ w.heap.size) (h : NodesZ w lo hi v (markF f k).1) (h0 : 0 ≤ k) (h1 : (markF f k).2 ≤ 1000000000) :
    Calls Try.prog 13 #[.agg #[v], .int .i64 k] w fun e w' => e = .returned (.int .i64 (markF f k).2) ∧ Below w.heap.size w w' := by
  have hb0 : Below w.heap.size w (w.alloc (.cells #[v] 28)) := (Below.refl _ _).alloc (Nat.le_refl _) _
  have C := Lib.hid (heldN_calls v f k (w.alloc (.cells #[v] 28)) lo hi (h.below hb0 hh) h0 h1)
  have HB0 := Lib.hid hb0
  have hk : 0 ≤ (markF f k).2 := by have := (markF_le f k 0); omega
  generalize (markF f k).2 = km at C hk ⊢
  clear h hb0
  go_enter Try.func13, Try.ntmps13
  go_wp2_with fail
  refine C.out.mono ?_
  rintro e w1 ⟨rfl, rfl⟩
  go_wp2_with fail
  go_ret
  exact ⟨rfl, HB0.out⟩

/-- a form of the call's own, marked -/
theorem markForm_own (v : Value) (vs : List (Value × Value)) (f : List Nz) (k : Int) (w : World) (base : Nat) (h : OwnF w base v vs f) (h0 : 0 ≤ k) (h1 : (markF f k).2 ≤ 1000000000) :
    Calls Try.prog 12 #[.agg #[v], .int .i64 k] w fun e w' => e = .returned (.int .i64 (markF f k).2) ∧ OwnF w' base v vs (markF f k).1 ∧ Only w w' (BlkF vs) := by
  have HB0 : Hid (Only w (w.alloc (.cells #[v] 28)) (BlkF vs)) := Lib.hid (Only.of_below ((Below.refl _ _).alloc (Nat.le_refl _) _))
  have C := Lib.hid (markN_calls v vs f k (w.alloc (.cells #[v] 28)) base (h.below ((Below.refl _ _).alloc (Nat.le_refl _) _)) h0 h1)
  clear h
  go_enter Try.func12, Try.ntmps12
  go_wp2_with fail
  refine C.out.mono ?_
  rintro e w1 ⟨rfl, ho, o1⟩
  have HO := Lib.hid (HB0.out.trans o1 (fun b _ h => h))
  have HW := Lib.hid ho
  clear o1 C ho
  go_wp2_with fail
  go_ret
  exact ⟨rfl, HW.out, HO.out⟩

end Go.Proofs.Ytanjanckkgbnbaa
