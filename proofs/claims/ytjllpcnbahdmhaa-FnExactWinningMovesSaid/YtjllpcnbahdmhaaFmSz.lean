/- laws.szForm and what it calls: how many numbers stand in a form. -/
import Derived.Test.YtjllpcnbahdmhaaFmBase
namespace Go.Proofs.Ytjllpcnbahdmhaa
set_option linter.unusedVariables false
set_option linter.unusedSimpArgs false
open Go.RowKit

/-- what is left of a bound -/
def leftOf (m : Int) (n : Nat) : Int := if (n : Int) ≤ m then m - n else -1

set_option maxHeartbeats 400000 in
theorem szIntS_calls (v : Value) (l : List Int) (w : World) (lo hi : Nat) (m : Int) (h0 : 0 ≤ m) (h1 : m ≤ 1048576) (hv : IntsZ w lo hi v l) :
    Calls Try.prog 119 #[v, .int .i64 m] w fun e w' => e = .returned (.int .i64 (leftOf m l.length)) ∧ w = w' := by
  obtain ⟨ao, c, rfl, hl, _⟩ := hv
  by_cases hle : (l.length : Int) ≤ m
  · have HR : Hid (leftOf m l.length = m - l.length) := Lib.hid (by unfold leftOf; rw [if_pos hle])
    have h2 : ¬ (m - (l.length : Int) < 0) := by omega
    go_enter Try.func119, Try.ntmps119
    go_wp2
    go_ret
    exact ⟨ret_int HR.out.symm, rfl⟩
  · have HR : Hid (leftOf m l.length = -1) := Lib.hid (by unfold leftOf; rw [if_neg hle])
    have h2 : m - (l.length : Int) < 0 := by omega
    go_enter Try.func119, Try.ntmps119
    go_wp2
    go_ret
    exact ⟨ret_int HR.out.symm, rfl⟩

theorem leftOf_neg (m : Int) (n : Nat) (h0 : 0 ≤ m) : leftOf m n < 0 ↔ m < n := by unfold leftOf; split <;> omega
theorem leftOf_pos (m : Int) (n : Nat) (h : (n : Int) ≤ m) : leftOf m n = m - n := by unfold leftOf; rw [if_pos h]

set_option maxHeartbeats 400000 in
theorem szNode_calls (v1 v2 : Value) (nd : Nz) (w : World) (lo hi : Nat) (hh : hi ≤ w.heap.size) (m : Int) (h0 : 0 ≤ m) (h1 : m ≤ 1048576) (hv1 : IntsZ w lo hi v1 nd.1) (hv2 : IntsZ w lo hi v2 nd.2) :
    Calls Try.prog 87 #[.agg #[v1, v2], .int .i64 m] w fun e w' => e = .returned (.int .i64 (leftOf m (szN nd))) ∧ Below w.heap.size w w' := by
  have g1 : ∀ o, IntsZ (w.alloc o) lo hi v1 nd.1 := fun o => hv1.below ((Below.refl _ _).alloc (Nat.le_refl _) _) hh
  have g2 : ∀ o, IntsZ (w.alloc o) lo hi v2 nd.2 := fun o => hv2.below ((Below.refl _ _).alloc (Nat.le_refl _) _) hh
  have G1 := Lib.hid g1
  have G2 := Lib.hid g2
  clear g1 g2 hv1 hv2
  have HR : Hid (leftOf m (szN nd) = if leftOf m nd.1.length < 0 then -1 else leftOf (leftOf m nd.1.length) nd.2.length) := Lib.hid (by unfold leftOf szN; split <;> split <;> (try split) <;> omega)
  have p2 : leftOf m nd.1.length ≤ 1048576 := by unfold leftOf; split <;> omega
  have c1 := fun o => szIntS_calls v1 nd.1 (w.alloc o) lo hi m h0 h1 (G1.out o)
  have c2 := fun o (h : 0 ≤ leftOf m nd.1.length) => szIntS_calls v2 nd.2 (w.alloc o) lo hi (leftOf m nd.1.length) h p2 (G2.out o)
  have C1 := Lib.hid c1
  have C2 := Lib.hid c2
  clear c1 c2 G1 G2
  generalize leftOf m nd.1.length = m1 at HR p2 C1 C2
  by_cases hn : m1 < 0
  · have HR2 : Hid (leftOf m (szN nd) = -1) := Lib.hid (by rw [HR.out, if_pos hn])
    clear HR
    go_enter Try.func87, Try.ntmps87
    go_wp2_with (refine (C1.out _).mono ?_; rintro e w' ⟨rfl, rfl⟩)
    go_ret
    exact ⟨ret_int HR2.out.symm, (Below.refl _ _).alloc (Nat.le_refl _) _⟩
  · have HR2 : Hid (leftOf m (szN nd) = leftOf m1 nd.2.length) := Lib.hid (by rw [HR.out, if_neg hn])
    clear HR
    have hp : 0 ≤ m1 := by omega
    generalize leftOf m1 nd.2.length = m2 at HR2 C2
    by_cases hn2 : m2 < 0
    · have HR3 : Hid (leftOf m (szN nd) = -1) := Lib.hid (by
        have := HR2.out
        unfold leftOf at this ⊢
        split at this <;> split <;> omega)
      go_enter Try.func87, Try.ntmps87
      go_wp2_with (first | ((with_reducible refine (C1.out _).mono ?_); rintro e w' ⟨rfl, rfl⟩) | ((with_reducible refine (C2.out _ hp).mono ?_); rintro e w' ⟨rfl, rfl⟩))
      go_ret
      exact ⟨ret_int HR3.out.symm, (Below.refl _ _).alloc (Nat.le_refl _) _⟩
    · go_enter Try.func87, Try.ntmps87
      go_wp2_with (first | ((with_reducible refine (C1.out _).mono ?_); rintro e w' ⟨rfl, rfl⟩) | ((with_reducible refine (C2.out _ hp).mono ?_); rintro e w' ⟨rfl, rfl⟩))
      go_ret
      exact ⟨ret_int HR2.out.symm, (Below.refl _ _).alloc (Nat.le_refl _) _⟩

theorem NodesZ.len_le {w : World} {lo hi : Nat} {v : Value} {f : List Nz} (h : NodesZ w lo hi v f) : f.length ≤ 9223372036854775807 := by obtain ⟨_, _, _, h, _⟩ := h; omega

set_option maxHeartbeats 1000000 in
theorem szNodeS_calls (v : Value) (f : List Nz) (w : World) (lo hi : Nat) (hh : hi ≤ w.heap.size) (m : Int) (h0 : 0 ≤ m) (h1 : m ≤ 1048576) (hv : NodesZ w lo hi v f) :
    Calls Try.prog 42 #[v, .int .i64 m] w fun e w' => e = .returned (.int .i64 (leftOf m (szNs f))) ∧ Below w.heap.size w w' := by
  have HV := Lib.hid hv
  obtain ⟨ao, c, rfl, hl, _⟩ := hv
  by_cases hbig : (f.length : Int) ≤ m
  · have hnot : ¬ (m - (f.length : Int) < 0) := by omega
    go_enter Try.func42, Try.ntmps42
    go_wp2
    go_loopw [1, 5] (fun q i wr => ∃ (k : Nat) (r : Int), k ≤ f.length ∧ i = .int .i64 k ∧ q = .int .i64 r ∧ 0 ≤ r ∧ r ≤ 1048576 ∧ Hid (r = m - (f.length : Int) - (((f.take k).map szN).sum : Int)) ∧ Hid (Below w.heap.size w wr)) (fun _ i _ => f.length - (intOf i).toNat)
    case atStart => exact ⟨0, _, Nat.zero_le _, rfl, rfl, by omega, by omega, Lib.hid (by simp), Lib.hid (Below.refl _ _)⟩
    case round =>
      obtain ⟨k, r, hk, rfl, rfl, hr0, hr1, hr, hb⟩ := hrel
      by_cases hlt : k < f.length
      · have hs : Hid (((f.take (k + 1)).map szN).sum = ((f.take k).map szN).sum + szN f[k]) := Lib.hid (szN_take f k hlt)
        have hle := szN_le f (k + 1)
        have hw := HV.out.below hb.out hh
        obtain ⟨ao', c', e', _, hn⟩ := hw
        obtain ⟨b, off, v1, v2, rfl, hlo, hhi, c1, c2, i1, i2⟩ := hn k f[k] (List.getElem?_eq_getElem hlt)
        injection e' with e1 e2 e3
        obtain rfl := e1
        clear hn
        have C := Lib.hid (szNode_calls v1 v2 f[k] wr lo hi (by have := hb.out.size; omega) r hr0 hr1 i1 i2)
        clear i1 i2 e2 e3 hlo hhi
        generalize f[k] = nd at hs C
        have b0 : (0 : Int) ≤ k := by omega
        have b1 : (k : Int) < f.length := by omega
        by_cases hn2 : leftOf r (szN nd) < 0
        · have HR : Hid (leftOf m (szNs f) = -1) := Lib.hid (by
            have g1 := (leftOf_neg r (szN nd) hr0).1 hn2
            have g2 := hr.out
            have g3 := hs.out
            unfold leftOf szNs
            rw [if_neg (by omega)])
          clear hs hr hle
          generalize leftOf r (szN nd) = r2 at C hn2
          go_wp2_with ((with_reducible refine C.out.mono ?_); rintro e w' ⟨rfl, hbl⟩)
          have hb2 : Hid (Below wr.heap.size wr w') := Lib.hid hbl
          clear hbl
          go_wp2
          go_ret
          exact ⟨ret_int HR.out.symm, hb.out.trans (hb2.out.mono hb.out.size)⟩
        · have g1 : (szN nd : Int) ≤ r := by have := (leftOf_neg r (szN nd) hr0); omega
          have R1 : Hid (leftOf r (szN nd) = m - (f.length : Int) - (((f.take (k + 1)).map szN).sum : Int)) := Lib.hid (by rw [leftOf_pos _ _ g1, hs.out]; have := hr.out; omega)
          have R2 : 0 ≤ leftOf r (szN nd) := by omega
          have R3 : leftOf r (szN nd) ≤ 1048576 := by rw [leftOf_pos _ _ g1]; omega
          clear hs hr hle g1
          generalize leftOf r (szN nd) = r2 at C hn2 R1 R2 R3
          go_wp2_with ((with_reducible refine C.out.mono ?_); rintro e w' ⟨rfl, hbl⟩)
          have hb2 : Hid (Below w.heap.size w w') := Lib.hid (hb.out.trans (hbl.mono hb.out.size))
          clear hbl
          go_wp2
          go_roundw
          case rel => exact ⟨k + 1, _, by omega, by go_num, rfl, R2, R3, R1, hb2⟩
          case measure => simp [intOf]; omega
      · have HR : Hid (leftOf m (szNs f) = r) := Lib.hid (by
          have h2 := hr.out
          rw [show k = f.length from by omega, List.take_length] at h2
          unfold leftOf szNs
          rw [if_pos (by omega)]
          omega)
        clear hr
        go_wp2
        go_ret
        exact ⟨ret_int HR.out.symm, hb.out⟩
  · have HR : Hid (leftOf m (szNs f) = -1) := Lib.hid (by unfold leftOf szNs; rw [if_neg (by omega)])
    have hyes : m - (f.length : Int) < 0 := by omega
    go_enter Try.func42, Try.ntmps42
    go_wp2
    go_ret
    exact ⟨ret_int HR.out.symm, Below.refl _ _⟩

set_option maxHeartbeats 400000 in
theorem szForm_calls (v : Value) (f : List Nz) (w : World) (lo hi : Nat) (hh : hi ≤ w.heap.size) (m : Int) (h0 : 0 ≤ m) (h1 : m ≤ 1048576) (hv : NodesZ w lo hi v f) :
    Calls Try.prog 12 #[.agg #[v], .int .i64 m] w fun e w' => e = .returned (.int .i64 (leftOf m (szNs f))) ∧ Below w.heap.size w w' := by
  have hb0 : ∀ o, Below w.heap.size w (w.alloc o) := fun o => (Below.refl _ _).alloc (Nat.le_refl _) _
  have C := Lib.hid fun o => szNodeS_calls v f (w.alloc o) lo hi (by have := (hb0 o).size; omega) m h0 h1 (hv.below (hb0 o) hh)
  have HR : Hid (leftOf m (szNs f) < 0 → leftOf m (szNs f) = -1) := Lib.hid (by unfold leftOf; split <;> omega)
  clear hv
  generalize leftOf m (szNs f) = r at C HR
  by_cases hn : r < 0
  · have HR2 := Lib.hid (HR.out hn)
    clear HR
    go_enter Try.func12, Try.ntmps12
    go_wp2_with ((with_reducible refine (C.out _).mono ?_); rintro e w' ⟨rfl, hbl⟩)
    have hb2 : Hid (Below w.heap.size w w') := Lib.hid ((hb0 _).trans (hbl.mono (hb0 _).size))
    clear hbl
    go_wp2
    go_ret
    exact ⟨ret_int HR2.out.symm, hb2.out⟩
  · clear HR
    go_enter Try.func12, Try.ntmps12
    go_wp2_with ((with_reducible refine (C.out _).mono ?_); rintro e w' ⟨rfl, hbl⟩)
    have hb2 : Hid (Below w.heap.size w w') := Lib.hid ((hb0 _).trans (hbl.mono (hb0 _).size))
    clear hbl
    go_wp2
    go_ret
    exact ⟨rfl, hb2.out⟩

end Go.Proofs.Ytjllpcnbahdmhaa
