/- laws.eqForm and what it calls: true of forms that read alike. -/
import Derived.Test.YtjllpcnbahdmhaaFmBase
import Derived.Deep.RegionHeld3
namespace Go.Proofs.Ytjllpcnbahdmhaa
open Go.RowKit

set_option maxHeartbeats 400000 in
theorem eqIntS_same (v v' : Value) (l : List Int) (w : World) (lo hi lo' hi' : Nat) (h : IntsZ w lo hi v l) (h' : IntsZ w lo' hi' v' l) :
    Calls Try.prog 23 #[v, v'] w fun e w' => e = .returned (.bool true) ∧ ∃ m, w' = w.drewN m := by
  obtain ⟨ao, c, rfl, hl, h3⟩ := h
  obtain ⟨ao', c', rfl, _, h3'⟩ := h'
  have H := Lib.hid h3
  have H' := Lib.hid h3'
  clear h3 h3'
  go_enter Try.func23, Try.ntmps23
  go_wp2
  go_loopw [5] (fun i wr => ∃ k : Nat, k ≤ l.length ∧ i = .int .i64 k ∧ ∃ m, wr = w.drewN m) (fun i _ => l.length - (intOf i).toNat)
  case atStart => exact ⟨0, Nat.zero_le _, rfl, 0, rfl⟩
  case round =>
    obtain ⟨k, hk, rfl, m, rfl⟩ := hrel
    by_cases hlt : k < l.length
    · obtain ⟨x, hx⟩ : ∃ x, l[k]? = some x := ⟨l[k], List.getElem?_eq_getElem hlt⟩
      obtain ⟨b, off, rfl, _, _, c1⟩ := H.out k x hx
      obtain ⟨b', off', rfl, _, _, c2⟩ := H'.out k x hx
      clear hx
      have b0 : (0 : Int) ≤ k := by omega
      have b1 : (k : Int) < l.length := by omega
      go_wp2
      go_quiet (fail)
      go_wp2
      go_roundw
      case rel => exact ⟨k + 1, by omega, by go_num, _, rfl⟩
      case measure => simp [intOf]; omega
    · go_wp2
      go_ret
      exact ⟨rfl, _, rfl⟩

set_option maxHeartbeats 400000 in
theorem eqNode_same (v1 v2 v1' v2' : Value) (nd : Nz) (w : World) (lo hi lo' hi' : Nat) (hh : hi ≤ w.heap.size) (hh' : hi' ≤ w.heap.size)
    (h1 : IntsZ w lo hi v1 nd.1) (h2 : IntsZ w lo hi v2 nd.2) (h1' : IntsZ w lo' hi' v1' nd.1) (h2' : IntsZ w lo' hi' v2' nd.2) :
    Calls Try.prog 96 #[.agg #[v1, v2], .agg #[v1', v2']] w fun e w' => e = .returned (.bool true) ∧ Below w.heap.size w w' := by
  have hb0 : ∀ o o' m, Below w.heap.size w (((w.alloc o).alloc o').drewN m) := fun o o' m => below_drewN (((Below.refl _ _).alloc (Nat.le_refl _) _).alloc (by simp) _) m
  have C1 := Lib.hid fun o o' m => eqIntS_same v1 v1' nd.1 _ lo hi lo' hi' (h1.below (hb0 o o' m) hh) (h1'.below (hb0 o o' m) hh')
  have C2 := Lib.hid fun o o' m => eqIntS_same v2 v2' nd.2 _ lo hi lo' hi' (h2.below (hb0 o o' m) hh) (h2'.below (hb0 o o' m) hh')
  clear h1 h2 h1' h2'
  go_enter Try.func96, Try.ntmps96
  go_wp2_with fail
  refine (C1.out _ _ 0).mono ?_
  rintro e w' ⟨rfl, m, rfl⟩
  go_wp2_with fail
  refine (C2.out _ _ _).mono ?_
  rintro e w' ⟨rfl, m', rfl⟩
  go_wp2_with fail
  go_ret
  exact ⟨rfl, hb0 _ _ _⟩

/-- two nodes at hand, from a world on -/
def TwoN (wr : World) (b o b' o' : Nat) (v1 v2 v1' v2' : Value) (w' : World) : Prop :=
  w'.cell? ⟨b, o, none⟩ = some v1 ∧ w'.cell? ⟨b, o + 1, none⟩ = some v2 ∧ w'.cell? ⟨b', o', none⟩ = some v1' ∧ w'.cell? ⟨b', o' + 1, none⟩ = some v2' ∧ Below wr.heap.size wr w'

theorem eq_next {wr W w1 : World} {b o b' o' : Nat} {v1 v2 v1' v2' : Value} (lb : b < wr.heap.size) (lb' : b' < wr.heap.size) (hb : Below W.heap.size W w1) (h : TwoN wr b o b' o' v1 v2 v1' v2' W) : TwoN wr b o b' o' v1 v2 v1' v2' w1 := by
  obtain ⟨h1, h2, h3, h4, h5⟩ := h
  have hz := h5.size
  exact ⟨(bcell hb b _ (by omega)).trans h1, (bcell hb b _ (by omega)).trans h2, (bcell hb b' _ (by omega)).trans h3, (bcell hb b' _ (by omega)).trans h4, h5.trans (hb.mono hz)⟩

set_option maxHeartbeats 1000000 in
theorem eqNodeS_same (v v' : Value) (f : List Nz) (w : World) (lo hi lo' hi' : Nat) (hh : hi ≤ w.heap.size) (hh' : hi' ≤ w.heap.size) (h : NodesZ w lo hi v f) (h' : NodesZ w lo' hi' v' f) :
    Calls Try.prog 50 #[v, v'] w fun e w' => e = .returned (.bool true) ∧ Below w.heap.size w w' := by
  have H := Lib.hid h
  have H' := Lib.hid h'
  obtain ⟨ao, c, rfl, hl, _⟩ := h
  obtain ⟨ao', c', rfl, _, _⟩ := h'
  go_enter Try.func50, Try.ntmps50
  go_wp2
  go_loopw [5] (fun i wr => ∃ k : Nat, k ≤ f.length ∧ i = .int .i64 k ∧ Hid (Below w.heap.size w wr)) (fun i _ => f.length - (intOf i).toNat)
  case atStart => exact ⟨0, Nat.zero_le _, rfl, Lib.hid (Below.refl _ _)⟩
  case round =>
    obtain ⟨k, hk, rfl, hb⟩ := hrel
    by_cases hlt : k < f.length
    · obtain ⟨nd, hx⟩ : ∃ x, f[k]? = some x := ⟨f[k], List.getElem?_eq_getElem hlt⟩
      obtain ⟨ao1, c1, e1, _, hn⟩ := H.out.below hb.out hh
      obtain ⟨b, off, v1, v2, rfl, _, _, p1, p2, i1, i2⟩ := hn k nd hx
      injection e1 with e1 q1 q2
      obtain rfl := e1
      clear q1 q2
      obtain ⟨ao2, c2, e2, _, hn2⟩ := H'.out.below hb.out hh'
      obtain ⟨b', off', v1', v2', rfl, _, _, p1', p2', i1', i2'⟩ := hn2 k nd hx
      injection e2 with e2 q1 q2
      obtain rfl := e2
      clear q1 q2
      clear hn hn2 hx H H'
      have hbl := hb.out.size
      have lb : b < wr.heap.size := block_of_cell p1
      have lb' : b' < wr.heap.size := block_of_cell p1'
      have C := Lib.hid fun (W : World) (hW : Below wr.heap.size wr W) => eqNode_same v1 v2 v1' v2' nd W lo hi lo' hi' (by have := hW.size; omega) (by have := hW.size; omega) (i1.below hW (by omega)) (i2.below hW (by omega)) (i1'.below hW (by omega)) (i2'.below hW (by omega))
      clear i1 i2 i1' i2'
      have hS0 : wr.drew.cell? ⟨b, off + k * 2, none⟩ = some v1 ∧ wr.drew.cell? ⟨b, off + k * 2 + 1, none⟩ = some v2 ∧ wr.drew.cell? ⟨b', off' + k * 2, none⟩ = some v1' ∧ wr.drew.cell? ⟨b', off' + k * 2 + 1, none⟩ = some v2' ∧ Below wr.heap.size wr wr.drew := ⟨p1, p2, p1', p2', below_drewN (Below.refl _ _) 1⟩
      clear p1 p2 p1' p2'
      have b0 : (0 : Int) ≤ k := by omega
      have b1 : (k : Int) < f.length := by omega
      go_wp2
      go_region_held3 (fun w' : World => w'.cell? ⟨b, off + k * 2, none⟩ = some v1 ∧ w'.cell? ⟨b, off + k * 2 + 1, none⟩ = some v2 ∧ w'.cell? ⟨b', off' + k * 2, none⟩ = some v1' ∧ w'.cell? ⟨b', off' + k * 2 + 1, none⟩ = some v2' ∧ Below wr.heap.size wr w') (first | exact hS0 | (go_split_ands; exact ⟨‹_›, ‹_›, ‹_›, ‹_›, ‹_›⟩) | (go_split_ands; exact eq_next lb lb' hb1 ⟨‹_›, ‹_›, ‹_›, ‹_›, ‹_›⟩)) (first | (go_at_call 96; go_split_ands; refine (C.out _ (by assumption)).mono ?_; rintro e w1 ⟨rfl, hb1⟩))
      go_split_ands
      go_wp2
      go_roundw
      case rel => exact ⟨k + 1, by omega, by go_num, Lib.hid (hb.out.trans (Below.mono (by assumption) hbl))⟩
      case measure => simp [intOf]; omega
    · go_wp2
      go_ret
      exact ⟨rfl, hb.out⟩

set_option maxHeartbeats 400000 in
theorem eqForm_same (v v' : Value) (f : List Nz) (w : World) (lo hi lo' hi' : Nat) (hh : hi ≤ w.heap.size) (hh' : hi' ≤ w.heap.size) (h : NodesZ w lo hi v f) (h' : NodesZ w lo' hi' v' f) :
    Calls Try.prog 16 #[.agg #[v], .agg #[v']] w fun e w' => e = .returned (.bool true) ∧ Below w.heap.size w w' := by
  have HB0 := Lib.hid fun o o' => show Below w.heap.size w ((w.alloc o).alloc o') from ((Below.refl _ _).alloc (Nat.le_refl _) _).alloc (by simp) _
  have C := Lib.hid fun (W : World) (hW : Below w.heap.size w W) => eqNodeS_same v v' f W lo hi lo' hi' (by have := hW.size; omega) (by have := hW.size; omega) (h.below hW hh) (h'.below hW hh')
  clear h h'
  go_enter Try.func16, Try.ntmps16
  go_wp2_with fail
  refine (C.out _ (HB0.out _ _)).mono ?_
  rintro e w4 ⟨rfl, hb⟩
  have HB4 := Lib.hid (Below.trans (HB0.out _ _) (hb.mono (by simp; omega)))
  clear hb
  go_wp2_with fail
  go_ret
  exact ⟨rfl, HB4.out⟩

end Go.Proofs.Ytjllpcnbahdmhaa
