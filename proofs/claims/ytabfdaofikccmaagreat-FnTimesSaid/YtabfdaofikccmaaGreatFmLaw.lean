/- laws.szForm and what it calls: how many numbers stand in a form. -/
import Derived.Test.YtabfdaofikccmaaGreatFmBase
import Derived.Deep.RegionHeld3
import Derived.Test.YtabfdaofikccmaaGreatFmTo
import Derived.Deep.DeepCutAuto
namespace Go.Proofs.YtabfdaofikccmaaGreat
section
set_option linter.unusedVariables false
set_option linter.unusedSimpArgs false
open Go.RowKit

/-- what is left of a bound -/
def leftOf (m : Int) (n : Nat) : Int := if (n : Int) ≤ m then m - n else -1

set_option maxHeartbeats 400000 in
theorem szIntS_calls (v : Value) (l : List Int) (w : World) (lo hi : Nat) (m : Int) (h0 : 0 ≤ m) (h1 : m ≤ 1048576) (hv : IntsZ w lo hi v l) :
    Calls Tryz.prog 185 #[v, .int .i64 m] w fun e w' => e = .returned (.int .i64 (leftOf m l.length)) ∧ w = w' := by
  obtain ⟨ao, c, rfl, hl, _⟩ := hv
  by_cases hle : (l.length : Int) ≤ m
  · have HR : Hid (leftOf m l.length = m - l.length) := Lib.hid (by unfold leftOf; rw [if_pos hle])
    have h2 : ¬ (m - (l.length : Int) < 0) := by omega
    go_enter Tryz.func185, Tryz.ntmps185
    go_wp2
    go_ret
    exact ⟨ret_int HR.out.symm, rfl⟩
  · have HR : Hid (leftOf m l.length = -1) := Lib.hid (by unfold leftOf; rw [if_neg hle])
    have h2 : m - (l.length : Int) < 0 := by omega
    go_enter Tryz.func185, Tryz.ntmps185
    go_wp2
    go_ret
    exact ⟨ret_int HR.out.symm, rfl⟩

theorem leftOf_neg (m : Int) (n : Nat) (h0 : 0 ≤ m) : leftOf m n < 0 ↔ m < n := by unfold leftOf; split <;> omega
theorem leftOf_pos (m : Int) (n : Nat) (h : (n : Int) ≤ m) : leftOf m n = m - n := by unfold leftOf; rw [if_pos h]

set_option maxHeartbeats 400000 in
theorem szNode_calls (v1 v2 : Value) (nd : Nz) (w : World) (lo hi : Nat) (hh : hi ≤ w.heap.size) (m : Int) (h0 : 0 ≤ m) (h1 : m ≤ 1048576) (hv1 : IntsZ w lo hi v1 nd.1) (hv2 : IntsZ w lo hi v2 nd.2) :
    Calls Tryz.prog 157 #[.agg #[v1, v2], .int .i64 m] w fun e w' => e = .returned (.int .i64 (leftOf m (szN nd))) ∧ Below w.heap.size w w' := by
  have g1 : ∀ o, IntsZ (w.alloc o) lo hi v1 nd.1 := fun o => hv1.below ((Below.refl _ _).alloc (Nat.le_refl _) _) hh
  have g2 : ∀ o, IntsZ (w.alloc o) lo hi v2 nd.2 := fun o => hv2.below ((Below.refl _ _).alloc (Nat.le_refl _) _) hh
  have G1 := Lib.hid g1
  have G2 := Lib.hid g2
  clear g1 g2 hv1 hv2
  have HR : Hid (leftOf m (szN nd) = if leftOf m nd.1.length < 0 then -1 else leftOf (leftOf m nd.1.length) nd.2.length) := Lib.hid (by unfold leftOf szN; split <;> split <;> (try split) <;> omega)
  have p2 : leftOf m nd.1.length ≤ 1048576 := by unfold leftOf; split <;> omega
  have c1 := fun o => szIntS_calls v1 nd.1 (w.alloc o) lo hi m h0 h1 (G1.out o)
  have c2 := fun o (h : 0 ≤ leftOf m nd.1.length) => szIntS_calls v2 nd.2 (w.alloc o) lo hi (leftOf m nd.1.length) h p2 (G2.out o)
  have C1 := Lib.hid c1
  have C2 := Lib.hid c2
  clear c1 c2 G1 G2
  generalize leftOf m nd.1.length = m1 at HR p2 C1 C2
  by_cases hn : m1 < 0
  · have HR2 : Hid (leftOf m (szN nd) = -1) := Lib.hid (by rw [HR.out, if_pos hn])
    clear HR
    go_enter Tryz.func157, Tryz.ntmps157
    go_wp2_with (refine (C1.out _).mono ?_; rintro e w' ⟨rfl, rfl⟩)
    go_ret
    exact ⟨ret_int HR2.out.symm, (Below.refl _ _).alloc (Nat.le_refl _) _⟩
  · have HR2 : Hid (leftOf m (szN nd) = leftOf m1 nd.2.length) := Lib.hid (by rw [HR.out, if_neg hn])
    clear HR
    have hp : 0 ≤ m1 := by omega
    generalize leftOf m1 nd.2.length = m2 at HR2 C2
    by_cases hn2 : m2 < 0
    · have HR3 : Hid (leftOf m (szN nd) = -1) := Lib.hid (by
        have := HR2.out
        unfold leftOf at this ⊢
        split at this <;> split <;> omega)
      go_enter Tryz.func157, Tryz.ntmps157
      go_wp2_with (first | ((with_reducible refine (C1.out _).mono ?_); rintro e w' ⟨rfl, rfl⟩) | ((with_reducible refine (C2.out _ hp).mono ?_); rintro e w' ⟨rfl, rfl⟩))
      go_ret
      exact ⟨ret_int HR3.out.symm, (Below.refl _ _).alloc (Nat.le_refl _) _⟩
    · go_enter Tryz.func157, Tryz.ntmps157
      go_wp2_with (first | ((with_reducible refine (C1.out _).mono ?_); rintro e w' ⟨rfl, rfl⟩) | ((with_reducible refine (C2.out _ hp).mono ?_); rintro e w' ⟨rfl, rfl⟩))
      go_ret
      exact ⟨ret_int HR2.out.symm, (Below.refl _ _).alloc (Nat.le_refl _) _⟩

theorem NodesZ.len_le {w : World} {lo hi : Nat} {v : Value} {f : List Nz} (h : NodesZ w lo hi v f) : f.length ≤ 9223372036854775807 := by obtain ⟨_, _, _, h, _⟩ := h; omega

set_option maxHeartbeats 1000000 in
theorem szNodeS_calls (v : Value) (f : List Nz) (w : World) (lo hi : Nat) (hh : hi ≤ w.heap.size) (m : Int) (h0 : 0 ≤ m) (h1 : m ≤ 1048576) (hv : NodesZ w lo hi v f) :
    Calls Tryz.prog 100 #[v, .int .i64 m] w fun e w' => e = .returned (.int .i64 (leftOf m (szNs f))) ∧ Below w.heap.size w w' := by
  have HV := Lib.hid hv
  obtain ⟨ao, c, rfl, hl, _⟩ := hv
  by_cases hbig : (f.length : Int) ≤ m
  · have hnot : ¬ (m - (f.length : Int) < 0) := by omega
    go_enter Tryz.func100, Tryz.ntmps100
    go_wp2
    go_loopw [1, 5] (fun q i wr => ∃ (k : Nat) (r : Int), k ≤ f.length ∧ i = .int .i64 k ∧ q = .int .i64 r ∧ 0 ≤ r ∧ r ≤ 1048576 ∧ Hid (r = m - (f.length : Int) - (((f.take k).map szN).sum : Int)) ∧ Hid (Below w.heap.size w wr)) (fun _ i _ => f.length - (intOf i).toNat)
    case atStart => exact ⟨0, _, Nat.zero_le _, rfl, rfl, by omega, by omega, Lib.hid (by simp), Lib.hid (Below.refl _ _)⟩
    case round =>
      obtain ⟨k, r, hk, rfl, rfl, hr0, hr1, hr, hb⟩ := hrel
      by_cases hlt : k < f.length
      · have hs : Hid (((f.take (k + 1)).map szN).sum = ((f.take k).map szN).sum + szN f[k]) := Lib.hid (szN_take f k hlt)
        have hle := szN_le f (k + 1)
        have hw := HV.out.below hb.out hh
        obtain ⟨ao', c', e', _, hn⟩ := hw
        obtain ⟨b, off, v1, v2, rfl, hlo, hhi, c1, c2, i1, i2⟩ := hn k f[k] (List.getElem?_eq_getElem hlt)
        injection e' with e1 e2 e3
        obtain rfl := e1
        clear hn
        have C := Lib.hid (szNode_calls v1 v2 f[k] wr lo hi (by have := hb.out.size; omega) r hr0 hr1 i1 i2)
        clear i1 i2 e2 e3 hlo hhi
        generalize f[k] = nd at hs C
        have b0 : (0 : Int) ≤ k := by omega
        have b1 : (k : Int) < f.length := by omega
        by_cases hn2 : leftOf r (szN nd) < 0
        · have HR : Hid (leftOf m (szNs f) = -1) := Lib.hid (by
            have g1 := (leftOf_neg r (szN nd) hr0).1 hn2
            have g2 := hr.out
            have g3 := hs.out
            unfold leftOf szNs
            rw [if_neg (by omega)])
          clear hs hr hle
          generalize leftOf r (szN nd) = r2 at C hn2
          go_wp2_with ((with_reducible refine C.out.mono ?_); rintro e w' ⟨rfl, hbl⟩)
          have hb2 : Hid (Below wr.heap.size wr w') := Lib.hid hbl
          clear hbl
          go_wp2
          go_ret
          exact ⟨ret_int HR.out.symm, hb.out.trans (hb2.out.mono hb.out.size)⟩
        · have g1 : (szN nd : Int) ≤ r := by have := (leftOf_neg r (szN nd) hr0); omega
          have R1 : Hid (leftOf r (szN nd) = m - (f.length : Int) - (((f.take (k + 1)).map szN).sum : Int)) := Lib.hid (by rw [leftOf_pos _ _ g1, hs.out]; have := hr.out; omega)
          have R2 : 0 ≤ leftOf r (szN nd) := by omega
          have R3 : leftOf r (szN nd) ≤ 1048576 := by rw [leftOf_pos _ _ g1]; omega
          clear hs hr hle g1
          generalize leftOf r (szN nd) = r2 at C hn2 R1 R2 R3
          go_wp2_with ((with_reducible refine C.out.mono ?_); rintro e w' ⟨rfl, hbl⟩)
          have hb2 : Hid (Below w.heap.size w w') := Lib.hid (hb.out.trans (hbl.mono hb.out.size))
          clear hbl
          go_wp2
          go_roundw
          case rel => exact ⟨k + 1, _, by omega, by go_num, rfl, R2, R3, R1, hb2⟩
          case measure => simp [intOf]; omega
      · have HR : Hid (leftOf m (szNs f) = r) := Lib.hid (by
          have h2 := hr.out
          rw [show k = f.length from by omega, List.take_length] at h2
          unfold leftOf szNs
          rw [if_pos (by omega)]
          omega)
        clear hr
        go_wp2
        go_ret
        exact ⟨ret_int HR.out.symm, hb.out⟩
  · have HR : Hid (leftOf m (szNs f) = -1) := Lib.hid (by unfold leftOf szNs; rw [if_neg (by omega)])
    have hyes : m - (f.length : Int) < 0 := by omega
    go_enter Tryz.func100, Tryz.ntmps100
    go_wp2
    go_ret
    exact ⟨ret_int HR.out.symm, Below.refl _ _⟩

set_option maxHeartbeats 400000 in
theorem szForm_calls (v : Value) (f : List Nz) (w : World) (lo hi : Nat) (hh : hi ≤ w.heap.size) (m : Int) (h0 : 0 ≤ m) (h1 : m ≤ 1048576) (hv : NodesZ w lo hi v f) :
    Calls Tryz.prog 44 #[.agg #[v], .int .i64 m] w fun e w' => e = .returned (.int .i64 (leftOf m (szNs f))) ∧ Below w.heap.size w w' := by
  have hb0 : ∀ o, Below w.heap.size w (w.alloc o) := fun o => (Below.refl _ _).alloc (Nat.le_refl _) _
  have C := Lib.hid fun o => szNodeS_calls v f (w.alloc o) lo hi (by have := (hb0 o).size; omega) m h0 h1 (hv.below (hb0 o) hh)
  have HR : Hid (leftOf m (szNs f) < 0 → leftOf m (szNs f) = -1) := Lib.hid (by unfold leftOf; split <;> omega)
  clear hv
  generalize leftOf m (szNs f) = r at C HR
  by_cases hn : r < 0
  · have HR2 := Lib.hid (HR.out hn)
    clear HR
    go_enter Tryz.func44, Tryz.ntmps44
    go_wp2_with ((with_reducible refine (C.out _).mono ?_); rintro e w' ⟨rfl, hbl⟩)
    have hb2 : Hid (Below w.heap.size w w') := Lib.hid ((hb0 _).trans (hbl.mono (hb0 _).size))
    clear hbl
    go_wp2
    go_ret
    exact ⟨ret_int HR2.out.symm, hb2.out⟩
  · clear HR
    go_enter Tryz.func44, Tryz.ntmps44
    go_wp2_with ((with_reducible refine (C.out _).mono ?_); rintro e w' ⟨rfl, hbl⟩)
    have hb2 : Hid (Below w.heap.size w w') := Lib.hid ((hb0 _).trans (hbl.mono (hb0 _).size))
    clear hbl
    go_wp2
    go_ret
    exact ⟨rfl, hb2.out⟩
end

section
open Go.RowKit

set_option maxHeartbeats 400000 in
theorem eqIntS_same (v v' : Value) (l : List Int) (w : World) (lo hi lo' hi' : Nat) (h : IntsZ w lo hi v l) (h' : IntsZ w lo' hi' v' l) :
    Calls Tryz.prog 192 #[v, v'] w fun e w' => e = .returned (.bool true) ∧ ∃ m, w' = w.drewN m := by
  obtain ⟨ao, c, rfl, hl, h3⟩ := h
  obtain ⟨ao', c', rfl, _, h3'⟩ := h'
  have H := Lib.hid h3
  have H' := Lib.hid h3'
  clear h3 h3'
  go_enter Tryz.func192, Tryz.ntmps192
  go_wp2
  go_loopw [5] (fun i wr => ∃ k : Nat, k ≤ l.length ∧ i = .int .i64 k ∧ ∃ m, wr = w.drewN m) (fun i _ => l.length - (intOf i).toNat)
  case atStart => exact ⟨0, Nat.zero_le _, rfl, 0, rfl⟩
  case round =>
    obtain ⟨k, hk, rfl, m, rfl⟩ := hrel
    by_cases hlt : k < l.length
    · obtain ⟨x, hx⟩ : ∃ x, l[k]? = some x := ⟨l[k], List.getElem?_eq_getElem hlt⟩
      obtain ⟨b, off, rfl, _, _, c1⟩ := H.out k x hx
      obtain ⟨b', off', rfl, _, _, c2⟩ := H'.out k x hx
      clear hx
      have b0 : (0 : Int) ≤ k := by omega
      have b1 : (k : Int) < l.length := by omega
      go_wp2
      go_quiet (fail)
      go_wp2
      go_roundw
      case rel => exact ⟨k + 1, by omega, by go_num, _, rfl⟩
      case measure => simp [intOf]; omega
    · go_wp2
      go_ret
      exact ⟨rfl, _, rfl⟩

set_option maxHeartbeats 400000 in
theorem eqNode_same (v1 v2 v1' v2' : Value) (nd : Nz) (w : World) (lo hi lo' hi' : Nat) (hh : hi ≤ w.heap.size) (hh' : hi' ≤ w.heap.size)
    (h1 : IntsZ w lo hi v1 nd.1) (h2 : IntsZ w lo hi v2 nd.2) (h1' : IntsZ w lo' hi' v1' nd.1) (h2' : IntsZ w lo' hi' v2' nd.2) :
    Calls Tryz.prog 166 #[.agg #[v1, v2], .agg #[v1', v2']] w fun e w' => e = .returned (.bool true) ∧ Below w.heap.size w w' := by
  have hb0 : ∀ o o' m, Below w.heap.size w (((w.alloc o).alloc o').drewN m) := fun o o' m => below_drewN (((Below.refl _ _).alloc (Nat.le_refl _) _).alloc (by simp) _) m
  have C1 := Lib.hid fun o o' m => eqIntS_same v1 v1' nd.1 _ lo hi lo' hi' (h1.below (hb0 o o' m) hh) (h1'.below (hb0 o o' m) hh')
  have C2 := Lib.hid fun o o' m => eqIntS_same v2 v2' nd.2 _ lo hi lo' hi' (h2.below (hb0 o o' m) hh) (h2'.below (hb0 o o' m) hh')
  clear h1 h2 h1' h2'
  go_enter Tryz.func166, Tryz.ntmps166
  go_wp2_with fail
  refine (C1.out _ _ 0).mono ?_
  rintro e w' ⟨rfl, m, rfl⟩
  go_wp2_with fail
  refine (C2.out _ _ _).mono ?_
  rintro e w' ⟨rfl, m', rfl⟩
  go_wp2_with fail
  go_ret
  exact ⟨rfl, hb0 _ _ _⟩

/-- two nodes at hand, from a world on -/
def TwoN (wr : World) (b o b' o' : Nat) (v1 v2 v1' v2' : Value) (w' : World) : Prop :=
  w'.cell? ⟨b, o, none⟩ = some v1 ∧ w'.cell? ⟨b, o + 1, none⟩ = some v2 ∧ w'.cell? ⟨b', o', none⟩ = some v1' ∧ w'.cell? ⟨b', o' + 1, none⟩ = some v2' ∧ Below wr.heap.size wr w'

theorem eq_next {wr W w1 : World} {b o b' o' : Nat} {v1 v2 v1' v2' : Value} (lb : b < wr.heap.size) (lb' : b' < wr.heap.size) (hb : Below W.heap.size W w1) (h : TwoN wr b o b' o' v1 v2 v1' v2' W) : TwoN wr b o b' o' v1 v2 v1' v2' w1 := by
  obtain ⟨h1, h2, h3, h4, h5⟩ := h
  have hz := h5.size
  exact ⟨(bcell hb b _ (by omega)).trans h1, (bcell hb b _ (by omega)).trans h2, (bcell hb b' _ (by omega)).trans h3, (bcell hb b' _ (by omega)).trans h4, h5.trans (hb.mono hz)⟩

set_option maxHeartbeats 1000000 in
theorem eqNodeS_same (v v' : Value) (f : List Nz) (w : World) (lo hi lo' hi' : Nat) (hh : hi ≤ w.heap.size) (hh' : hi' ≤ w.heap.size) (h : NodesZ w lo hi v f) (h' : NodesZ w lo' hi' v' f) :
    Calls Tryz.prog 110 #[v, v'] w fun e w' => e = .returned (.bool true) ∧ Below w.heap.size w w' := by
  have H := Lib.hid h
  have H' := Lib.hid h'
  obtain ⟨ao, c, rfl, hl, _⟩ := h
  obtain ⟨ao', c', rfl, _, _⟩ := h'
  go_enter Tryz.func110, Tryz.ntmps110
  go_wp2
  go_loopw [5] (fun i wr => ∃ k : Nat, k ≤ f.length ∧ i = .int .i64 k ∧ Hid (Below w.heap.size w wr)) (fun i _ => f.length - (intOf i).toNat)
  case atStart => exact ⟨0, Nat.zero_le _, rfl, Lib.hid (Below.refl _ _)⟩
  case round =>
    obtain ⟨k, hk, rfl, hb⟩ := hrel
    by_cases hlt : k < f.length
    · obtain ⟨nd, hx⟩ : ∃ x, f[k]? = some x := ⟨f[k], List.getElem?_eq_getElem hlt⟩
      obtain ⟨ao1, c1, e1, _, hn⟩ := H.out.below hb.out hh
      obtain ⟨b, off, v1, v2, rfl, _, _, p1, p2, i1, i2⟩ := hn k nd hx
      injection e1 with e1 q1 q2
      obtain rfl := e1
      clear q1 q2
      obtain ⟨ao2, c2, e2, _, hn2⟩ := H'.out.below hb.out hh'
      obtain ⟨b', off', v1', v2', rfl, _, _, p1', p2', i1', i2'⟩ := hn2 k nd hx
      injection e2 with e2 q1 q2
      obtain rfl := e2
      clear q1 q2
      clear hn hn2 hx H H'
      have hbl := hb.out.size
      have lb : b < wr.heap.size := block_of_cell p1
      have lb' : b' < wr.heap.size := block_of_cell p1'
      have C := Lib.hid fun (W : World) (hW : Below wr.heap.size wr W) => eqNode_same v1 v2 v1' v2' nd W lo hi lo' hi' (by have := hW.size; omega) (by have := hW.size; omega) (i1.below hW (by omega)) (i2.below hW (by omega)) (i1'.below hW (by omega)) (i2'.below hW (by omega))
      clear i1 i2 i1' i2'
      have hS0 : wr.drew.cell? ⟨b, off + k * 2, none⟩ = some v1 ∧ wr.drew.cell? ⟨b, off + k * 2 + 1, none⟩ = some v2 ∧ wr.drew.cell? ⟨b', off' + k * 2, none⟩ = some v1' ∧ wr.drew.cell? ⟨b', off' + k * 2 + 1, none⟩ = some v2' ∧ Below wr.heap.size wr wr.drew := ⟨p1, p2, p1', p2', below_drewN (Below.refl _ _) 1⟩
      clear p1 p2 p1' p2'
      have b0 : (0 : Int) ≤ k := by omega
      have b1 : (k : Int) < f.length := by omega
      go_wp2
      go_region_held3 (fun w' : World => w'.cell? ⟨b, off + k * 2, none⟩ = some v1 ∧ w'.cell? ⟨b, off + k * 2 + 1, none⟩ = some v2 ∧ w'.cell? ⟨b', off' + k * 2, none⟩ = some v1' ∧ w'.cell? ⟨b', off' + k * 2 + 1, none⟩ = some v2' ∧ Below wr.heap.size wr w') (first | exact hS0 | (go_split_ands; exact ⟨‹_›, ‹_›, ‹_›, ‹_›, ‹_›⟩) | (go_split_ands; exact eq_next lb lb' hb1 ⟨‹_›, ‹_›, ‹_›, ‹_›, ‹_›⟩)) (first | (go_at_call 166; go_split_ands; refine (C.out _ (by assumption)).mono ?_; rintro e w1 ⟨rfl, hb1⟩))
      go_split_ands
      go_wp2
      go_roundw
      case rel => exact ⟨k + 1, by omega, by go_num, Lib.hid (hb.out.trans (Below.mono (by assumption) hbl))⟩
      case measure => simp [intOf]; omega
    · go_wp2
      go_ret
      exact ⟨rfl, hb.out⟩

set_option maxHeartbeats 400000 in
theorem eqForm_same (v v' : Value) (f : List Nz) (w : World) (lo hi lo' hi' : Nat) (hh : hi ≤ w.heap.size) (hh' : hi' ≤ w.heap.size) (h : NodesZ w lo hi v f) (h' : NodesZ w lo' hi' v' f) :
    Calls Tryz.prog 48 #[.agg #[v], .agg #[v']] w fun e w' => e = .returned (.bool true) ∧ Below w.heap.size w w' := by
  have HB0 := Lib.hid fun o o' => show Below w.heap.size w ((w.alloc o).alloc o') from ((Below.refl _ _).alloc (Nat.le_refl _) _).alloc (by simp) _
  have C := Lib.hid fun (W : World) (hW : Below w.heap.size w W) => eqNodeS_same v v' f W lo hi lo' hi' (by have := hW.size; omega) (by have := hW.size; omega) (h.below hW hh) (h'.below hW hh')
  clear h h'
  go_enter Tryz.func48, Tryz.ntmps48
  go_wp2_with fail
  refine (C.out _ (HB0.out _ _)).mono ?_
  rintro e w4 ⟨rfl, hb⟩
  have HB4 := Lib.hid (Below.trans (HB0.out _ _) (hb.mono (by simp; omega)))
  clear hb
  go_wp2_with fail
  go_ret
  exact ⟨rfl, HB4.out⟩
end

section
open Go.RowKit

/-- two cells at hand, from a world on -/
def TwoL (W : World) (b1 b2 : Nat) (v1 v2 : Value) (w' : World) : Prop := w'.cell? ⟨b1, 0, none⟩ = some v1 ∧ w'.cell? ⟨b2, 0, none⟩ = some v2 ∧ Below W.heap.size W w'

theorem twoL_next {W Wa w1 : World} {b1 b2 : Nat} {v1 v2 : Value} (l1 : b1 < W.heap.size) (l2 : b2 < W.heap.size) (hb : Below Wa.heap.size Wa w1) (h : TwoL W b1 b2 v1 v2 Wa) : TwoL W b1 b2 v1 v2 w1 := by
  obtain ⟨h1, h2, h3⟩ := h
  have hz := h3.size
  exact ⟨(bcell hb b1 _ (by omega)).trans h1, (bcell hb b2 _ (by omega)).trans h2, h3.trans (hb.mono hz)⟩

theorem twoL_start {W : World} {b1 b2 : Nat} {v1 v2 : Value} (h1 : W.cell? ⟨b1, 0, none⟩ = some v1) (h2 : W.cell? ⟨b2, 0, none⟩ = some v2) : TwoL W b1 b2 v1 v2 W.drew := ⟨h1, h2, below_drewN (Below.refl _ _) 1⟩

/-- a form, copied by the law, in any later world -/
def CopyOf (W : World) (v : Value) (f : List Nz) : Prop := ∃ lo hi, hi ≤ W.heap.size ∧ NodesZ W lo hi v f

theorem CopyOf.below {W W' : World} {v : Value} {f : List Nz} (h : CopyOf W v f) (hb : Below W.heap.size W W') : CopyOf W' v f := by
  obtain ⟨lo, hi, hh, h⟩ := h
  exact ⟨lo, hi, Nat.le_trans hh hb.size, h.below hb hh⟩

theorem toForm_copy (v : Value) (f : List Nz) (w : World) (hv : CopyOf w v f) (hl : szNs f ≤ 1048576) :
    Calls Tryz.prog 46 #[.agg #[v]] w fun e w' => ∃ a n c, e = .returned (.agg #[.slice a n c]) ∧ CopyOf w' (.slice a n c) f ∧ Below w.heap.size w w' := by
  obtain ⟨lo, hi, hh, h⟩ := hv
  exact (toForm_calls v f w lo hi hh h hl).mono fun _ _ ⟨a, n, c, he, hn, hb⟩ => ⟨a, n, c, he, ⟨_, _, Nat.le_refl _, hn⟩, hb⟩

theorem eqForm_copy (v v' : Value) (f : List Nz) (w : World) (h : CopyOf w v f) (h' : CopyOf w v' f) :
    Calls Tryz.prog 48 #[.agg #[v], .agg #[v']] w fun e w' => e = .returned (.bool true) ∧ Below w.heap.size w w' := by
  obtain ⟨lo, hi, hh, h⟩ := h
  obtain ⟨lo', hi', hh', h'⟩ := h'
  exact eqForm_same v v' f w lo hi lo' hi' hh hh' h h'

theorem szForm_copy (v : Value) (f : List Nz) (w : World) (m : Int) (h0 : 0 ≤ m) (h1 : m ≤ 1048576) (hv : CopyOf w v f) :
    Calls Tryz.prog 44 #[.agg #[v], .int .i64 m] w fun e w' => e = .returned (.int .i64 (leftOf m (szNs f))) ∧ Below w.heap.size w w' := by
  obtain ⟨lo, hi, hh, h⟩ := hv
  exact szForm_calls v f w lo hi hh m h0 h1 h

/-- four cells at hand -/
def FourL (W : World) (b1 b2 b3 b4 : Nat) (v1 v2 v3 v4 : Value) (w' : World) : Prop := w'.cell? ⟨b1, 0, none⟩ = some v1 ∧ w'.cell? ⟨b2, 0, none⟩ = some v2 ∧ w'.cell? ⟨b3, 0, none⟩ = some v3 ∧ w'.cell? ⟨b4, 0, none⟩ = some v4 ∧ Below W.heap.size W w'

theorem fourL_next {W Wa w1 : World} {b1 b2 b3 b4 : Nat} {v1 v2 v3 v4 : Value} (l1 : b1 < W.heap.size) (l2 : b2 < W.heap.size) (l3 : b3 < W.heap.size) (l4 : b4 < W.heap.size) (hb : Below Wa.heap.size Wa w1) (h : FourL W b1 b2 b3 b4 v1 v2 v3 v4 Wa) : FourL W b1 b2 b3 b4 v1 v2 v3 v4 w1 := by
  obtain ⟨h1, h2, h3, h4, h5⟩ := h
  have hz := h5.size
  exact ⟨(bcell hb b1 _ (by omega)).trans h1, (bcell hb b2 _ (by omega)).trans h2, (bcell hb b3 _ (by omega)).trans h3, (bcell hb b4 _ (by omega)).trans h4, h5.trans (hb.mono hz)⟩

theorem fourL_start {W : World} {b1 b2 b3 b4 : Nat} {v1 v2 v3 v4 : Value} (h1 : W.cell? ⟨b1, 0, none⟩ = some v1) (h2 : W.cell? ⟨b2, 0, none⟩ = some v2) (h3 : W.cell? ⟨b3, 0, none⟩ = some v3) (h4 : W.cell? ⟨b4, 0, none⟩ = some v4) : FourL W b1 b2 b3 b4 v1 v2 v3 v4 W.drew := ⟨h1, h2, h3, h4, below_drewN (Below.refl _ _) 1⟩

theorem fourL_drew {W W2 : World} {b1 b2 b3 b4 : Nat} {v1 v2 v3 v4 : Value} (h : FourL W b1 b2 b3 b4 v1 v2 v3 v4 W2) : FourL W b1 b2 b3 b4 v1 v2 v3 v4 W2.drew := ⟨h.1, h.2.1, h.2.2.1, h.2.2.2.1, below_drewN h.2.2.2.2 1⟩
end

end Go.Proofs.YtabfdaofikccmaaGreat
