/- laws.vInts of two lists that are alike. -/
import Derived.Test.YtabfdaofikccmaaFmLaw
import Derived.Test.YtabfdaofikccmaaFmOwn
import Derived.Test.YtabfdaofikccmaaDrAll
import Derived.Test.YtabfdaofikccmaaFmPartL
import Derived.Test.YtabfdaofikccmaaGpAll
import Derived.Test.YtabfdaofikccmaaFmGoodI
import Derived.Test.YtabfdaofikccmaaInOf
import Derived.Test.YtabfdaofikccmaaLsBll
import Derived.Test.YtabfdaofikccmaaOpAll
import Derived.Test.YtabfdaofikccmaaFmBornF
namespace Go.Proofs.Ytabfdaofikccmaa
section
section
open Go.RowKit
set_option linter.unusedVariables false
set_option linter.unusedSimpArgs false

set_option maxHeartbeats 400000 in
theorem vInts_same (v v' : Value) (l : List Int) (w : World) (lo hi lo' hi' : Nat) (h : IntsZ w lo hi v l) (h' : IntsZ w lo' hi' v' l) :
    Calls Try.prog 16 #[v, v'] w fun e w' => e = .returned (.bool true) ∧ ∃ m, w' = w.drewN m := by
  obtain ⟨ao, c, rfl, hl, h3⟩ := h
  obtain ⟨ao', c', rfl, _, h3'⟩ := h'
  have H := Lib.hid h3
  have H' := Lib.hid h3'
  clear h3 h3'
  go_enter Try.func16, Try.ntmps16
  go_wp2
  go_loopw [5] (fun i wr => ∃ k : Nat, k ≤ l.length ∧ i = .int .i64 k ∧ ∃ m, wr = w.drewN m) (fun i _ => l.length - (intOf i).toNat)
  case atStart => exact ⟨0, Nat.zero_le _, rfl, 0, rfl⟩
  case round =>
    obtain ⟨k, hk, rfl, m, rfl⟩ := hrel
    by_cases hlt : k < l.length
    · obtain ⟨x, hx⟩ : ∃ x, l[k]? = some x := ⟨l[k], List.getElem?_eq_getElem hlt⟩
      obtain ⟨b, off, rfl, _, _, c1⟩ := H.out k x hx
      obtain ⟨b', off', rfl, _, _, c2⟩ := H'.out k x hx
      clear hx
      have b0 : (0 : Int) ≤ k := by omega
      have b1 : (k : Int) < l.length := by omega
      go_wp2
      go_quiet (fail)
      go_wp2
      go_roundw
      case rel => exact ⟨k + 1, by omega, by go_num, _, rfl⟩
      case measure => simp [intOf]; omega
    · go_wp2
      go_ret
      exact ⟨rfl, _, rfl⟩
end

section
open Go.RowKit
set_option linter.unusedVariables false
set_option linter.unusedSimpArgs false

theorem keepV {w w' : World} {b : Nat} {v : Value} (h : w.cell? ⟨b, 0, none⟩ = some v) (hb : Below w.heap.size w w') : w'.cell? ⟨b, 0, none⟩ = some v := (bcell hb _ _ (block_of_cell h)).trans h

/-- six cells at hand, from a world on -/
def SixV (wr : World) (p q b o b' o' : Nat) (v v' v1 v2 v1' v2' : Value) (w' : World) : Prop :=
  w'.cell? ⟨p, 0, none⟩ = some v ∧ w'.cell? ⟨q, 0, none⟩ = some v' ∧ w'.cell? ⟨b, o, none⟩ = some v1 ∧ w'.cell? ⟨b, o + 1, none⟩ = some v2 ∧ w'.cell? ⟨b', o', none⟩ = some v1' ∧ w'.cell? ⟨b', o' + 1, none⟩ = some v2' ∧ Below wr.heap.size wr w'

theorem sixV_next {wr W w1 : World} {p q b o b' o' : Nat} {v v' v1 v2 v1' v2' : Value} (lp : p < wr.heap.size) (lq : q < wr.heap.size) (lb : b < wr.heap.size) (lb' : b' < wr.heap.size) (hb : Below W.heap.size W w1) (h : SixV wr p q b o b' o' v v' v1 v2 v1' v2' W) : SixV wr p q b o b' o' v v' v1 v2 v1' v2' w1 := by
  obtain ⟨h1, h2, h3, h4, h5, h6, h7⟩ := h
  have hz := h7.size
  exact ⟨(bcell hb p _ (by omega)).trans h1, (bcell hb q _ (by omega)).trans h2, (bcell hb b _ (by omega)).trans h3, (bcell hb b _ (by omega)).trans h4, (bcell hb b' _ (by omega)).trans h5, (bcell hb b' _ (by omega)).trans h6, h7.trans (hb.mono hz)⟩

set_option maxRecDepth 100000 in
set_option maxHeartbeats 8000000 in
theorem vSame_same (v v' : Value) (f : List Nz) (w : World) (lo hi lo' hi' : Nat) (hh : hi ≤ w.heap.size) (hh' : hi' ≤ w.heap.size) (h : NodesZ w lo hi v f) (h' : NodesZ w lo' hi' v' f) :
    Calls Try.prog 12 #[.agg #[v], .agg #[v']] w fun e w' => e = .returned (.bool true) ∧ Below w.heap.size w w' := by
  have b0 : Below w.heap.size w ((w.alloc (.cells #[v] 28)).alloc (.cells #[v'] 28)) := ((Below.refl _ _).alloc (Nat.le_refl _) _).alloc (by simp) _
  have k1 : ((w.alloc (.cells #[v] 28)).alloc (.cells #[v'] 28)).cell? ⟨w.heap.size, 0, none⟩ = some v := by go_simp
  have k2 : ((w.alloc (.cells #[v] 28)).alloc (.cells #[v'] 28)).cell? ⟨w.heap.size + 1, 0, none⟩ = some v' := by go_simp
  have z0 : ((w.alloc (.cells #[v] 28)).alloc (.cells #[v'] 28)).heap.size = w.heap.size + 2 := by simp
  have H := Lib.hid (h.below b0 hh)
  have H' := Lib.hid (h'.below b0 hh')
  have B0 := Lib.hid b0
  obtain ⟨ao, c, rfl, hl, _⟩ := h
  obtain ⟨ao', c', rfl, _, _⟩ := h'
  clear b0
  go_enter Try.func12, Try.ntmps12
  go_upto_region 1 with fail
  generalize ((w.alloc (.cells #[.slice ao f.length c] 28)).alloc (.cells #[.slice ao' f.length c'] 28)) = w0 at k1 k2 z0 H H' B0 ⊢
  have HK := Lib.hid fun (W : World) (hW : Below w0.heap.size w0 W) => And.intro (keepV k1 hW) (keepV k2 hW)
  go_wp2
  go_loopw [5] (fun i wr => ∃ k : Nat, k ≤ f.length ∧ i = .int .i64 k ∧ Hid (Below w0.heap.size w0 wr)) (fun i _ => f.length - (intOf i).toNat)
  case atStart => exact ⟨0, Nat.zero_le _, rfl, Lib.hid (Below.refl _ _)⟩
  case round =>
    obtain ⟨k, hk, rfl, hb⟩ := hrel
    clear k1 k2
    obtain ⟨k1, k2⟩ := HK.out _ hb.out
    have hbl := hb.out.size
    by_cases hlt : k < f.length
    · obtain ⟨nd, hx⟩ : ∃ x, f[k]? = some x := ⟨f[k], List.getElem?_eq_getElem hlt⟩
      obtain ⟨ao1, c1, e1, _, hn⟩ := H.out.below hb.out (by omega)
      obtain ⟨b, off, v1, v2, rfl, _, _, p1, p2, i1, i2⟩ := hn k nd hx
      injection e1 with e1 q1 q2
      obtain rfl := e1
      clear q1 q2
      obtain ⟨ao2, c2, e2, _, hn2⟩ := H'.out.below hb.out (by omega)
      obtain ⟨b', off', v1', v2', rfl, _, _, p1', p2', i1', i2'⟩ := hn2 k nd hx
      injection e2 with e2 q1 q2
      obtain rfl := e2
      clear q1 q2
      clear hn hn2 hx H H'
      have lb : b < wr.heap.size := block_of_cell p1
      have lb' : b' < wr.heap.size := block_of_cell p1'
      have lp : w.heap.size < wr.heap.size := by omega
      have lq : w.heap.size + 1 < wr.heap.size := by omega
      have C1 := Lib.hid fun (W : World) (hW : Below wr.heap.size wr W) => (vInts_same v1 v1' nd.1 W lo hi lo' hi' (i1.below hW (by omega)) (i1'.below hW (by omega))).mono (fun _ w' (h : _ ∧ ∃ m, w' = W.drewN m) => show _ ∧ Below W.heap.size W w' from ⟨h.1, by obtain ⟨_, m, rfl⟩ := h; exact below_drewN (Below.refl _ _) m⟩)
      have C2 := Lib.hid fun (W : World) (hW : Below wr.heap.size wr W) => (vInts_same v2 v2' nd.2 W lo hi lo' hi' (i2.below hW (by omega)) (i2'.below hW (by omega))).mono (fun _ w' (h : _ ∧ ∃ m, w' = W.drewN m) => show _ ∧ Below W.heap.size W w' from ⟨h.1, by obtain ⟨_, m, rfl⟩ := h; exact below_drewN (Below.refl _ _) m⟩)
      clear i1 i2 i1' i2'
      have b0 : (0 : Int) ≤ k := by omega
      have b1 : (k : Int) < f.length := by omega
      have HC := Lib.hid fun (W : World) (hW : Below wr.heap.size wr W) => show (fun w' : World => w'.cell? ⟨w.heap.size, 0, none⟩ = some (.slice (some ⟨b, off, none⟩) f.length c) ∧ w'.cell? ⟨w.heap.size + 1, 0, none⟩ = some (.slice (some ⟨b', off', none⟩) f.length c') ∧ w'.cell? ⟨b, off + k * 2, none⟩ = some v1 ∧ w'.cell? ⟨b, off + k * 2 + 1, none⟩ = some v2 ∧ w'.cell? ⟨b', off' + k * 2, none⟩ = some v1' ∧ w'.cell? ⟨b', off' + k * 2 + 1, none⟩ = some v2') W from ⟨(bcell hW _ _ lp).trans k1, (bcell hW _ _ lq).trans k2, (bcell hW _ _ lb).trans p1, (bcell hW _ _ lb).trans p2, (bcell hW _ _ lb').trans p1', (bcell hW _ _ lb').trans p2'⟩
      have hbd : Below wr.heap.size wr wr.drew := below_drewN (Below.refl _ _) 1
      have hS0 := HC.out _ hbd
      clear p1 p2 p1' p2' HK B0
      go_wp2
      refine wp_region_held_drew (S := (fun w' : World => w'.cell? ⟨w.heap.size, 0, none⟩ = some (.slice (some ⟨b, off, none⟩) f.length c) ∧ w'.cell? ⟨w.heap.size + 1, 0, none⟩ = some (.slice (some ⟨b', off', none⟩) f.length c') ∧ w'.cell? ⟨b, off + k * 2, none⟩ = some v1 ∧ w'.cell? ⟨b, off + k * 2 + 1, none⟩ = some v2 ∧ w'.cell? ⟨b', off' + k * 2, none⟩ = some v1' ∧ w'.cell? ⟨b', off' + k * 2 + 1, none⟩ = some v2')) (by kernel_rfl) hS0 (fun hHeld => ?_)
      refine wpAnyH_take (i := 0) (v := ?_) rfl (by kernel_rfl) (by kernel_rfl) (by kernel_rfl) (fun _ _ _ h => h) (Or.inl ⟨by rfl, ?_⟩) hHeld ?_
      rotate_left
      · intro W hW
        obtain ⟨z1, z2, z3, z4, z5, z6⟩ := hW
        first | (go_simp; done) | (go_simp; with_reducible rfl)
      try simp only [List.getElem_toArray, List.getElem_cons_succ, List.getElem_cons_zero, Act.put, List.setIfInBounds_toArray, List.set_cons_zero, List.set_cons_succ]
      refine wpAnyH_take (i := 1) (v := ?_) rfl (by kernel_rfl) (by kernel_rfl) (by kernel_rfl) (fun _ _ _ h => h) (Or.inl ⟨by rfl, ?_⟩) hHeld ?_
      rotate_left
      · intro W hW
        obtain ⟨z1, z2, z3, z4, z5, z6⟩ := hW
        first | (go_simp; done) | (go_simp; with_reducible rfl)
      try simp only [List.getElem_toArray, List.getElem_cons_succ, List.getElem_cons_zero, Act.put, List.setIfInBounds_toArray, List.set_cons_zero, List.set_cons_succ]
      refine wpAnyH_take (i := 2) (v := ?_) rfl (by kernel_rfl) (by kernel_rfl) (by kernel_rfl) (fun _ _ _ h => h) (Or.inl ⟨by rfl, ?_⟩) hHeld ?_
      rotate_left
      · intro W hW
        obtain ⟨z1, z2, z3, z4, z5, z6⟩ := hW
        first | (go_simp; done) | (go_simp; with_reducible rfl)
      try simp only [List.getElem_toArray, List.getElem_cons_succ, List.getElem_cons_zero, Act.put, List.setIfInBounds_toArray, List.set_cons_zero, List.set_cons_succ]
      refine wpAnyH_take (i := 3) (v := ?_) rfl (by kernel_rfl) (by kernel_rfl) (by kernel_rfl) (fun _ _ _ h => h) (Or.inl ⟨by rfl, ?_⟩) hHeld ?_
      rotate_left
      · intro W hW
        obtain ⟨z1, z2, z3, z4, z5, z6⟩ := hW
        first | (go_simp; done) | (go_simp; with_reducible rfl)
      try simp only [List.getElem_toArray, List.getElem_cons_succ, List.getElem_cons_zero, Act.put, List.setIfInBounds_toArray, List.set_cons_zero, List.set_cons_succ]
      refine wpAnyH_take (i := 4) (v := ?_) rfl (by kernel_rfl) (by kernel_rfl) (by kernel_rfl) (fun _ _ _ h => h) (Or.inl ⟨by rfl, ?_⟩) hHeld ?_
      rotate_left
      · intro W hW
        obtain ⟨z1, z2, z3, z4, z5, z6⟩ := hW
        first | (go_simp; done) | (go_simp; with_reducible rfl)
      try simp only [List.getElem_toArray, List.getElem_cons_succ, List.getElem_cons_zero, Act.put, List.setIfInBounds_toArray, List.set_cons_zero, List.set_cons_succ]
      refine wpAnyH_take (i := 5) (v := ?_) rfl (by kernel_rfl) (by kernel_rfl) (by kernel_rfl) (fun _ _ _ h => h) (Or.inl ⟨by rfl, ?_⟩) hHeld ?_
      rotate_left
      · intro W hW
        obtain ⟨z1, z2, z3, z4, z5, z6⟩ := hW
        first | (go_simp; done) | (go_simp; with_reducible rfl)
      try simp only [List.getElem_toArray, List.getElem_cons_succ, List.getElem_cons_zero, Act.put, List.setIfInBounds_toArray, List.set_cons_zero, List.set_cons_succ]
      refine wpAnyH_take (i := 6) (v := ?_) rfl (by kernel_rfl) (by kernel_rfl) (by kernel_rfl) (fun _ _ _ h => h) (Or.inl ⟨by rfl, ?_⟩) hHeld ?_
      rotate_left
      · intro W hW
        obtain ⟨z1, z2, z3, z4, z5, z6⟩ := hW
        first | (go_simp; done) | (go_simp; with_reducible rfl)
      try simp only [List.getElem_toArray, List.getElem_cons_succ, List.getElem_cons_zero, Act.put, List.setIfInBounds_toArray, List.set_cons_zero, List.set_cons_succ]
      refine wpAnyH_take (i := 7) (v := ?_) rfl (by kernel_rfl) (by kernel_rfl) (by kernel_rfl) (fun _ _ _ h => h) (Or.inl ⟨by rfl, ?_⟩) hHeld ?_
      rotate_left
      · intro W hW
        obtain ⟨z1, z2, z3, z4, z5, z6⟩ := hW
        first | (go_simp; done) | (go_simp; with_reducible rfl)
      try simp only [List.getElem_toArray, List.getElem_cons_succ, List.getElem_cons_zero, Act.put, List.setIfInBounds_toArray, List.set_cons_zero, List.set_cons_succ]
      refine wpAnyH_take (i := 8) (v := ?_) rfl (by kernel_rfl) (by kernel_rfl) (by kernel_rfl) (fun _ _ _ h => h) (Or.inl ⟨by rfl, ?_⟩) hHeld ?_
      rotate_left
      · intro W hW
        obtain ⟨z1, z2, z3, z4, z5, z6⟩ := hW
        first | (go_simp; done) | (go_simp; with_reducible rfl)
      try simp only [List.getElem_toArray, List.getElem_cons_succ, List.getElem_cons_zero, Act.put, List.setIfInBounds_toArray, List.set_cons_zero, List.set_cons_succ]
      refine wpAnyH_take (i := 9) (v := ?_) rfl (by kernel_rfl) (by kernel_rfl) (by kernel_rfl) (fun _ _ _ h => h) (Or.inl ⟨by rfl, ?_⟩) hHeld ?_
      rotate_left
      · intro W hW
        obtain ⟨z1, z2, z3, z4, z5, z6⟩ := hW
        first | (go_simp; done) | (go_simp; with_reducible rfl)
      try simp only [List.getElem_toArray, List.getElem_cons_succ, List.getElem_cons_zero, Act.put, List.setIfInBounds_toArray, List.set_cons_zero, List.set_cons_succ]
      refine wpAnyH_take (i := 10) (v := ?_) rfl (by kernel_rfl) (by kernel_rfl) (by kernel_rfl) (fun _ _ _ h => h) (Or.inl ⟨by rfl, ?_⟩) hHeld ?_
      rotate_left
      · intro W hW
        obtain ⟨z1, z2, z3, z4, z5, z6⟩ := hW
        first | (go_simp; done) | (go_simp; with_reducible rfl)
      try simp only [List.getElem_toArray, List.getElem_cons_succ, List.getElem_cons_zero, Act.put, List.setIfInBounds_toArray, List.set_cons_zero, List.set_cons_succ]
      refine wpAnyH_take (i := 11) (v := ?_) rfl (by kernel_rfl) (by kernel_rfl) (by kernel_rfl) (fun _ _ _ h => h) (Or.inl ⟨by rfl, ?_⟩) hHeld ?_
      rotate_left
      · intro W hW
        obtain ⟨z1, z2, z3, z4, z5, z6⟩ := hW
        first | (go_simp; done) | (go_simp; with_reducible rfl)
      try simp only [List.getElem_toArray, List.getElem_cons_succ, List.getElem_cons_zero, Act.put, List.setIfInBounds_toArray, List.set_cons_zero, List.set_cons_succ]
      refine wpAnyH_ready (rs := [12]) (by kernel_rfl) (by simp) ?_
      refine AllReadyH.cons rfl (fun K hK => ?_) AllReadyH.nil
      go_simp
      go_at_call 16
      refine (C1.out _ hbd).mono ?_
      rintro e wa ⟨rfl, ha⟩
      have hba : Below wr.heap.size wr wa := hbd.trans (ha.mono hbd.size)
      go_wp2_with fail
      refine hK.out _ _ (HC.out _ hba) (fun hH2 => ?_)
      clear hK K
      try simp only [List.getElem_toArray, List.getElem_cons_succ, List.getElem_cons_zero, Act.put, List.setIfInBounds_toArray, List.set_cons_zero, List.set_cons_succ]
      refine wpAnyH_take (i := 13) (v := ?_) rfl (by kernel_rfl) (by kernel_rfl) (by kernel_rfl) (fun _ _ _ h => h) (Or.inl ⟨by rfl, ?_⟩) hH2 ?_
      rotate_left
      · intro W hW
        obtain ⟨z1, z2, z3, z4, z5, z6⟩ := hW
        first | (go_simp; done) | (go_simp; with_reducible rfl)
      try simp only [List.getElem_toArray, List.getElem_cons_succ, List.getElem_cons_zero, Act.put, List.setIfInBounds_toArray, List.set_cons_zero, List.set_cons_succ]
      refine wpAnyH_take (i := 14) (v := ?_) rfl (by kernel_rfl) (by kernel_rfl) (by kernel_rfl) (fun _ _ _ h => h) (Or.inl ⟨by rfl, ?_⟩) hH2 ?_
      rotate_left
      · intro W hW
        obtain ⟨z1, z2, z3, z4, z5, z6⟩ := hW
        first | (go_simp; done) | (go_simp; with_reducible rfl)
      try simp only [List.getElem_toArray, List.getElem_cons_succ, List.getElem_cons_zero, Act.put, List.setIfInBounds_toArray, List.set_cons_zero, List.set_cons_succ]
      refine wpAnyH_take (i := 15) (v := ?_) rfl (by kernel_rfl) (by kernel_rfl) (by kernel_rfl) (fun _ _ _ h => h) (Or.inl ⟨by rfl, ?_⟩) hH2 ?_
      rotate_left
      · intro W hW
        obtain ⟨z1, z2, z3, z4, z5, z6⟩ := hW
        first | (go_simp; done) | (go_simp; with_reducible rfl)
      try simp only [List.getElem_toArray, List.getElem_cons_succ, List.getElem_cons_zero, Act.put, List.setIfInBounds_toArray, List.set_cons_zero, List.set_cons_succ]
      refine wpAnyH_take (i := 16) (v := ?_) rfl (by kernel_rfl) (by kernel_rfl) (by kernel_rfl) (fun _ _ _ h => h) (Or.inl ⟨by rfl, ?_⟩) hH2 ?_
      rotate_left
      · intro W hW
        obtain ⟨z1, z2, z3, z4, z5, z6⟩ := hW
        first | (go_simp; done) | (go_simp; with_reducible rfl)
      try simp only [List.getElem_toArray, List.getElem_cons_succ, List.getElem_cons_zero, Act.put, List.setIfInBounds_toArray, List.set_cons_zero, List.set_cons_succ]
      refine wpAnyH_take (i := 17) (v := ?_) rfl (by kernel_rfl) (by kernel_rfl) (by kernel_rfl) (fun _ _ _ h => h) (Or.inl ⟨by rfl, ?_⟩) hH2 ?_
      rotate_left
      · intro W hW
        obtain ⟨z1, z2, z3, z4, z5, z6⟩ := hW
        first | (go_simp; done) | (go_simp; with_reducible rfl)
      try simp only [List.getElem_toArray, List.getElem_cons_succ, List.getElem_cons_zero, Act.put, List.setIfInBounds_toArray, List.set_cons_zero, List.set_cons_succ]
      refine wpAnyH_take (i := 18) (v := ?_) rfl (by kernel_rfl) (by kernel_rfl) (by kernel_rfl) (fun _ _ _ h => h) (Or.inl ⟨by rfl, ?_⟩) hH2 ?_
      rotate_left
      · intro W hW
        obtain ⟨z1, z2, z3, z4, z5, z6⟩ := hW
        first | (go_simp; done) | (go_simp; with_reducible rfl)
      try simp only [List.getElem_toArray, List.getElem_cons_succ, List.getElem_cons_zero, Act.put, List.setIfInBounds_toArray, List.set_cons_zero, List.set_cons_succ]
      refine wpAnyH_take (i := 19) (v := ?_) rfl (by kernel_rfl) (by kernel_rfl) (by kernel_rfl) (fun _ _ _ h => h) (Or.inl ⟨by rfl, ?_⟩) hH2 ?_
      rotate_left
      · intro W hW
        obtain ⟨z1, z2, z3, z4, z5, z6⟩ := hW
        first | (go_simp; done) | (go_simp; with_reducible rfl)
      try simp only [List.getElem_toArray, List.getElem_cons_succ, List.getElem_cons_zero, Act.put, List.setIfInBounds_toArray, List.set_cons_zero, List.set_cons_succ]
      refine wpAnyH_take (i := 20) (v := ?_) rfl (by kernel_rfl) (by kernel_rfl) (by kernel_rfl) (fun _ _ _ h => h) (Or.inl ⟨by rfl, ?_⟩) hH2 ?_
      rotate_left
      · intro W hW
        obtain ⟨z1, z2, z3, z4, z5, z6⟩ := hW
        first | (go_simp; done) | (go_simp; with_reducible rfl)
      try simp only [List.getElem_toArray, List.getElem_cons_succ, List.getElem_cons_zero, Act.put, List.setIfInBounds_toArray, List.set_cons_zero, List.set_cons_succ]
      refine wpAnyH_take (i := 21) (v := ?_) rfl (by kernel_rfl) (by kernel_rfl) (by kernel_rfl) (fun _ _ _ h => h) (Or.inl ⟨by rfl, ?_⟩) hH2 ?_
      rotate_left
      · intro W hW
        obtain ⟨z1, z2, z3, z4, z5, z6⟩ := hW
        first | (go_simp; done) | (go_simp; with_reducible rfl)
      try simp only [List.getElem_toArray, List.getElem_cons_succ, List.getElem_cons_zero, Act.put, List.setIfInBounds_toArray, List.set_cons_zero, List.set_cons_succ]
      refine wpAnyH_take (i := 22) (v := ?_) rfl (by kernel_rfl) (by kernel_rfl) (by kernel_rfl) (fun _ _ _ h => h) (Or.inl ⟨by rfl, ?_⟩) hH2 ?_
      rotate_left
      · intro W hW
        obtain ⟨z1, z2, z3, z4, z5, z6⟩ := hW
        first | (go_simp; done) | (go_simp; with_reducible rfl)
      try simp only [List.getElem_toArray, List.getElem_cons_succ, List.getElem_cons_zero, Act.put, List.setIfInBounds_toArray, List.set_cons_zero, List.set_cons_succ]
      refine wpAnyH_take (i := 23) (v := ?_) rfl (by kernel_rfl) (by kernel_rfl) (by kernel_rfl) (fun _ _ _ h => h) (Or.inl ⟨by rfl, ?_⟩) hH2 ?_
      rotate_left
      · intro W hW
        obtain ⟨z1, z2, z3, z4, z5, z6⟩ := hW
        first | (go_simp; done) | (go_simp; with_reducible rfl)
      try simp only [List.getElem_toArray, List.getElem_cons_succ, List.getElem_cons_zero, Act.put, List.setIfInBounds_toArray, List.set_cons_zero, List.set_cons_succ]
      refine wpAnyH_take (i := 24) (v := ?_) rfl (by kernel_rfl) (by kernel_rfl) (by kernel_rfl) (fun _ _ _ h => h) (Or.inl ⟨by rfl, ?_⟩) hH2 ?_
      rotate_left
      · intro W hW
        obtain ⟨z1, z2, z3, z4, z5, z6⟩ := hW
        first | (go_simp; done) | (go_simp; with_reducible rfl)
      try simp only [List.getElem_toArray, List.getElem_cons_succ, List.getElem_cons_zero, Act.put, List.setIfInBounds_toArray, List.set_cons_zero, List.set_cons_succ]
      refine wpAnyH_take (i := 25) (v := ?_) rfl (by kernel_rfl) (by kernel_rfl) (by kernel_rfl) (fun _ _ _ h => h) (Or.inl ⟨by rfl, ?_⟩) hH2 ?_
      rotate_left
      · intro W hW
        obtain ⟨z1, z2, z3, z4, z5, z6⟩ := hW
        first | (go_simp; done) | (go_simp; with_reducible rfl)
      try simp only [List.getElem_toArray, List.getElem_cons_succ, List.getElem_cons_zero, Act.put, List.setIfInBounds_toArray, List.set_cons_zero, List.set_cons_succ]
      refine wpAnyH_take (i := 26) (v := ?_) rfl (by kernel_rfl) (by kernel_rfl) (by kernel_rfl) (fun _ _ _ h => h) (Or.inl ⟨by rfl, ?_⟩) hH2 ?_
      rotate_left
      · intro W hW
        obtain ⟨z1, z2, z3, z4, z5, z6⟩ := hW
        first | (go_simp; done) | (go_simp; with_reducible rfl)
      try simp only [List.getElem_toArray, List.getElem_cons_succ, List.getElem_cons_zero, Act.put, List.setIfInBounds_toArray, List.set_cons_zero, List.set_cons_succ]
      refine wpAnyH_ready (rs := [27]) (by kernel_rfl) (by simp) ?_
      refine AllReadyH.cons rfl (fun K hK => ?_) AllReadyH.nil
      go_simp
      go_at_call 16
      refine (C2.out _ hba).mono ?_
      rintro e wc ⟨rfl, hc⟩
      have hbc : Below wr.heap.size wr wc := hba.trans (hc.mono hba.size)
      go_wp2_with fail
      refine hK.out _ _ (HC.out _ hbc) (fun hH3 => ?_)
      clear hK K
      try simp only [List.getElem_toArray, List.getElem_cons_succ, List.getElem_cons_zero, Act.put, List.setIfInBounds_toArray, List.set_cons_zero, List.set_cons_succ]
      refine wpAnyH_take (i := 28) (v := ?_) rfl (by kernel_rfl) (by kernel_rfl) (by kernel_rfl) (fun _ _ _ h => h) (Or.inl ⟨by rfl, ?_⟩) hH3 ?_
      rotate_left
      · intro W hW
        obtain ⟨z1, z2, z3, z4, z5, z6⟩ := hW
        first | (go_simp; done) | (go_simp; with_reducible rfl)
      try simp only [List.getElem_toArray, List.getElem_cons_succ, List.getElem_cons_zero, Act.put, List.setIfInBounds_toArray, List.set_cons_zero, List.set_cons_succ]
      refine wpAnyH_take (i := 29) (v := ?_) rfl (by kernel_rfl) (by kernel_rfl) (by kernel_rfl) (fun _ _ _ h => h) (Or.inl ⟨by rfl, ?_⟩) hH3 ?_
      rotate_left
      · intro W hW
        obtain ⟨z1, z2, z3, z4, z5, z6⟩ := hW
        first | (go_simp; done) | (go_simp; with_reducible rfl)
      try simp only [List.getElem_toArray, List.getElem_cons_succ, List.getElem_cons_zero, Act.put, List.setIfInBounds_toArray, List.set_cons_zero, List.set_cons_succ]
      refine wpAnyH_done (by kernel_rfl) ?_ _
      have HBC := Lib.hid (hb.out.trans (hbc.mono hbl))
      clear HC C1 C2 hba hbc ha hc hbd hS0
      go_wp2
      go_roundw
      case rel => exact ⟨k + 1, by omega, by go_num, HBC⟩
      case measure => simp [intOf]; omega
    · go_wp2
      go_ret
      exact ⟨rfl, B0.out.trans (hb.out.mono (by omega))⟩
end

section
open Go.RowKit
set_option linter.unusedVariables false
set_option linter.unusedSimpArgs false

/-- a box that holds a game -/
def BoxF (w : World) (D : Nat) (v : Value) (f : List Nz) : Prop := w.cell? ⟨D, 0, none⟩ = some v ∧ CopyOf w v f

theorem BoxF.step {w w' : World} {D : Nat} {v : Value} {f : List Nz} (h : BoxF w D v f) (hb : Below w.heap.size w w') : BoxF w' D v f := ⟨keepV h.1 hb, h.2.below hb⟩

theorem BoxF.new {w : World} {v : Value} {f : List Nz} (h : CopyOf w v f) (T : TypeId) : BoxF (w.alloc (.cells #[v] T)) w.heap.size v f := ⟨by go_simp, h.below ((Below.refl _ _).alloc (Nat.le_refl _) _)⟩

theorem copyOf_nodes {w : World} {lo : Nat} {v : Value} {f : List Nz} (h : NodesZ w lo w.heap.size v f) : CopyOf w v f := ⟨_, _, Nat.le_refl _, h⟩

theorem below_via {a W b : World} (h : Below a.heap.size a W) (g : Below W.heap.size W b) : Below a.heap.size a b := h.trans (g.mono h.size)

theorem below_new (w : World) (o : Obj) : Below w.heap.size w (w.alloc o) := (Below.refl _ _).alloc (Nat.le_refl _) _

theorem one_box {w : World} {v1 : Value} {f1 : List Nz} (h1 : CopyOf w v1 f1) (T : TypeId) :
    BoxF (w.alloc (.cells #[v1] T)) w.heap.size v1 f1 ∧ Below w.heap.size w (w.alloc (.cells #[v1] T)) := ⟨BoxF.new h1 T, below_new _ _⟩

theorem two_boxes {w : World} {v1 v2 : Value} {f1 f2 : List Nz} (h1 : CopyOf w v1 f1) (h2 : CopyOf w v2 f2) (T : TypeId) :
    BoxF ((w.alloc (.cells #[v1] T)).alloc (.cells #[v2] T)) w.heap.size v1 f1 ∧ BoxF ((w.alloc (.cells #[v1] T)).alloc (.cells #[v2] T)) (w.heap.size + 1) v2 f2 ∧ Below w.heap.size w ((w.alloc (.cells #[v1] T)).alloc (.cells #[v2] T)) := by
  have z : (w.alloc (.cells #[v1] T)).heap.size = w.heap.size + 1 := by simp
  have b := BoxF.new (h2.below (below_new w (.cells #[v1] T))) T
  rw [z] at b
  exact ⟨(BoxF.new h1 T).step (below_new _ _), b, below_via (below_new _ _) (below_new _ _)⟩

theorem three_boxes {w : World} {v1 v2 v3 : Value} {f1 f2 f3 : List Nz} (h1 : CopyOf w v1 f1) (h2 : CopyOf w v2 f2) (h3 : CopyOf w v3 f3) (T : TypeId) :
    BoxF (((w.alloc (.cells #[v1] T)).alloc (.cells #[v2] T)).alloc (.cells #[v3] T)) w.heap.size v1 f1 ∧ BoxF (((w.alloc (.cells #[v1] T)).alloc (.cells #[v2] T)).alloc (.cells #[v3] T)) (w.heap.size + 1) v2 f2 ∧ BoxF (((w.alloc (.cells #[v1] T)).alloc (.cells #[v2] T)).alloc (.cells #[v3] T)) (w.heap.size + 1 + 1) v3 f3 ∧ Below w.heap.size w (((w.alloc (.cells #[v1] T)).alloc (.cells #[v2] T)).alloc (.cells #[v3] T)) := by
  obtain ⟨a1, a2, a3⟩ := two_boxes h1 h2 T
  have z : ((w.alloc (.cells #[v1] T)).alloc (.cells #[v2] T)).heap.size = w.heap.size + 1 + 1 := by simp
  have b := BoxF.new (h3.below a3) T
  rw [z] at b
  exact ⟨a1.step (below_new _ _), a2.step (below_new _ _), b, below_via a3 (below_new _ _)⟩

/-- two boxes that hold the same game -/
theorem vSame_box {w : World} {v v' : Value} {f : List Nz} (h : CopyOf w v f) (h' : CopyOf w v' f) :
    Calls Try.prog 12 #[.agg #[v], .agg #[v']] w fun e w' => e = .returned (.bool true) ∧ Below w.heap.size w w' := by
  obtain ⟨lo, hi, hh, h⟩ := h
  obtain ⟨lo', hi', hh', h'⟩ := h'
  exact vSame_same v v' f w lo hi lo' hi' hh hh' h h'
end

section
open Go.RowKit
set_option linter.unusedVariables false
set_option linter.unusedSimpArgs false

/-- a list of numbers, in any later world -/
def CopyI (w : World) (v : Value) (l : List Int) : Prop := ∃ lo hi, hi ≤ w.heap.size ∧ IntsZ w lo hi v l

theorem CopyI.below {w w' : World} {v : Value} {l : List Int} (h : CopyI w v l) (hb : Below w.heap.size w w') : CopyI w' v l := by
  obtain ⟨lo, hi, hh, hz⟩ := h
  exact ⟨lo, hi, Nat.le_trans hh hb.size, hz.below hb hh⟩

theorem copyI_own {w : World} {base : Nat} {v : Value} {l : List Int} (h : OwnI w base v l) : CopyI w v l := ⟨_, _, Nat.le_refl _, h.ints⟩

theorem CopyI.shape {w : World} {v : Value} {l : List Int} (h : CopyI w v l) : ∃ a c, v = .slice a l.length c := by
  obtain ⟨lo, hi, hh, a, c, e, _⟩ := h
  exact ⟨a, c, e⟩

theorem vInts_copy {w : World} {v v' : Value} {l : List Int} (h : CopyI w v l) (h' : CopyI w v' l) :
    Calls Try.prog 16 #[v, v'] w fun e w' => e = .returned (.bool true) ∧ Below w.heap.size w w' := by
  obtain ⟨lo, hi, hh, h⟩ := h
  obtain ⟨lo', hi', hh', h'⟩ := h'
  refine (vInts_same v v' l w lo hi lo' hi' h h').mono ?_
  rintro e w' ⟨h1, m, rfl⟩
  exact ⟨h1, below_drewN (Below.refl _ _) m⟩

/-- a list of games, in any later world -/
def CopyFs (w : World) (v : Value) (Gs : List (List Nz)) : Prop := ∃ lo hi, hi ≤ w.heap.size ∧ FormsZ w lo hi v Gs

theorem CopyFs.below {w w' : World} {v : Value} {Gs : List (List Nz)} (h : CopyFs w v Gs) (hb : Below w.heap.size w w') : CopyFs w' v Gs := by
  obtain ⟨lo, hi, hh, hz⟩ := h
  exact ⟨lo, hi, Nat.le_trans hh hb.size, hz.below hb hh⟩

/-- a number of the list at hand -/
theorem CopyI.at_ {w : World} {a : Option Addr} {n c : Nat} {l : List Int} (h : CopyI w (.slice a n c) l) {m : Nat} {x : Int} (hx : l[m]? = some x) : ∃ b off, a = some ⟨b, off, none⟩ ∧ w.cell? ⟨b, off + m, none⟩ = some (.int .i64 x) := by
  obtain ⟨lo, hi, hh, a', c', e, _, hz⟩ := h
  injection e with e
  subst e
  obtain ⟨b, off, e2, _, _, h3⟩ := hz m x hx
  exact ⟨b, off, e2, h3⟩

/-- a game of the list at hand -/
theorem CopyFs.at_ {w : World} {a : Option Addr} {n c : Nat} {Gs : List (List Nz)} (h : CopyFs w (.slice a n c) Gs) {m : Nat} {f : List Nz} (hf : Gs[m]? = some f) : ∃ b off vf, a = some ⟨b, off, none⟩ ∧ w.cell? ⟨b, off + m, none⟩ = some vf ∧ CopyOf w vf f := by
  obtain ⟨lo, hi, hh, a', c', e, _, hz⟩ := h
  injection e with e
  subst e
  obtain ⟨b, off, vf, e2, _, _, h3, h4⟩ := hz m f hf
  exact ⟨b, off, vf, e2, h3, lo, hi, hh, h4⟩

theorem CopyI.cap {w : World} {v : Value} {l : List Int} (h : CopyI w v l) : l.length ≤ 9223372036854775807 := by
  obtain ⟨lo, hi, hh, a', c', e, hc, hz⟩ := h
  omega

theorem CopyFs.cap {w : World} {v : Value} {Gs : List (List Nz)} (h : CopyFs w v Gs) : Gs.length ≤ 9223372036854775807 := by
  obtain ⟨lo, hi, hh, a', c', e, hc, hz⟩ := h
  omega
end

section
open Go.RowKit
set_option linter.unusedVariables false
set_option linter.unusedSimpArgs false

theorem add_addrF (g j : Nat) : (⟨g, 0, none⟩ : Addr).add j = ⟨g, j, none⟩ := by unfold Addr.add; split <;> simp_all

theorem ownFS_src {w : World} {base g c : Nat} {ps : List (Value × List (Value × Value))} {Fs : List (List Nz)} (h : OwnFS w base (.slice (some ⟨g, 0, none⟩) Fs.length c) ps Fs) {w' : World} (hs : ∀ b, b < w.heap.size → ∀ o, w'.cell? ⟨b, o, none⟩ = w.cell? ⟨b, o, none⟩) :
    ∀ (j : Nat) (u : Value), (ps.map Prod.fst)[j]? = some u → w'.cell? ((⟨g, 0, none⟩ : Addr).add j) = some u := fun j u hj => by
  have hl := get_lt hj
  rw [List.length_map, h.len] at hl
  have hlt := World.ownsRow.lt h.row g rfl
  rw [add_addrF, hs g hlt.2, World.ownsRow.cellAt h.row j (by omega)]
  exact hj

theorem ownFS_one {w : World} {base : Nat} {v : Value} {ps : List (Value × List (Value × Value))} {Fs : List (List Nz)} (h : OwnFS w base v ps Fs) : ∀ u ∈ ps.map Prod.fst, u.oneCell' = true := fun u hu => by
  obtain ⟨p, hp, rfl⟩ := List.mem_map.1 hu
  obtain ⟨j, hj⟩ := List.getElem?_of_mem hp
  obtain ⟨f, hf⟩ := lt_get (l := Fs) (i := j) (by rw [← h.len]; exact get_lt hj)
  have ho := (h.each j f p hf hj).nodes
  rcases ho.2 with ⟨h1, h0⟩ | ⟨b, c, cs, h1, _⟩
  · rw [h1]; simp [Value.oneCell']
  · rw [h1]; simp [Value.oneCell']

theorem own_slice {w : World} {base : Nat} {e : TypeId} {size n : Nat} {v : Value} {xs : List Value} (h : w.ownsRow base e size v n xs) (hv : v ≠ .slice none 0 0) : ∃ g c, v = .slice (some ⟨g, 0, none⟩) n c := by
  rcases h.2 with ⟨h1, h0⟩ | ⟨b, c, cs, h1, _⟩
  · exact (hv h1).elim
  · exact ⟨b, c, h1⟩

/-- the list of both -/
theorem both_copy {w w' : World} {base b2 n g1 c1 g2 c2 g c : Nat} {p1 p2 : List (Value × List (Value × Value))} {G1 G2 : List (List Nz)} (h1 : OwnFS w base (.slice (some ⟨g1, 0, none⟩) G1.length c1) p1 G1) (h2 : OwnFS w base (.slice (some ⟨g2, 0, none⟩) G2.length c2) p2 G2)
    (hs : ∀ b, b < w.heap.size → ∀ o, w'.cell? ⟨b, o, none⟩ = w.cell? ⟨b, o, none⟩) (hz : w.heap.size ≤ w'.heap.size) (hn : n = (G1 ++ G2).length) (hown : w'.ownsRow b2 28 1 (.slice (some ⟨g, 0, none⟩) n c) n (p1.map Prod.fst ++ p2.map Prod.fst)) :
    CopyFs w' (.slice (some ⟨g, 0, none⟩) n c) (G1 ++ G2) := by
  subst hn
  have hlt := World.ownsRow.lt hown g rfl
  have l1 := h1.len
  have l2 := h2.len
  refine ⟨0, w'.heap.size, Nat.le_refl _, _, c, rfl, World.ownsRow.caps hown, fun j f hj => ?_⟩
  have hjl := get_lt hj
  rw [List.length_append] at hjl
  have key : ∃ p : Value × List (Value × Value), (p1.map Prod.fst ++ p2.map Prod.fst)[j]? = some p.1 ∧ OwnF w base p.1 p.2 f := by
    rcases Nat.lt_or_ge j G1.length with h | h
    · rw [List.getElem?_append_left h] at hj
      obtain ⟨p, hp⟩ := lt_get (l := p1) (i := j) (by omega)
      exact ⟨p, by rw [List.getElem?_append_left (by rw [List.length_map]; omega), List.getElem?_map, hp]; rfl, h1.each j f p hj hp⟩
    · rw [List.getElem?_append_right h] at hj
      obtain ⟨p, hp⟩ := lt_get (l := p2) (i := j - G1.length) (by omega)
      exact ⟨p, by rw [List.getElem?_append_right (by rw [List.length_map]; omega), List.getElem?_map, List.length_map, l1, hp]; rfl, h2.each (j - G1.length) f p hj hp⟩
  obtain ⟨p, hp, ho⟩ := key
  refine ⟨g, 0, p.1, rfl, Nat.zero_le _, hlt.2, ?_, (ho.nodesZ.keep (fun b o g1 g2 => hs b g2 o)).wide (Nat.zero_le _) hz⟩
  rw [Nat.zero_add, World.ownsRow.cellAt hown j (by rw [List.length_append]; omega)]
  exact hp
end
end

section
section
set_option linter.unusedVariables false
set_option linter.unusedSimpArgs false

theorem partN_small (f : List Nd) (need : Nat → Bool) (top : Nat) (h : ∀ nd ∈ f, nd.1.length ≤ 24 ∧ nd.2.length ≤ 24) : ∀ k, ∀ nd ∈ (partN f need top k).2, nd.1.length ≤ 24 ∧ nd.2.length ≤ 24
  | 0, nd, hm => by simp [partN] at hm
  | k + 1, nd, hm => by
    have ih := partN_small f need top h k
    rw [partN] at hm
    cases hn : need k with
    | false =>
      simp only [hn, Bool.false_eq_true, if_false] at hm
      exact ih nd hm
    | true =>
      simp only [hn, if_true] at hm
      rcases List.mem_append.1 hm with hm | hm
      · exact ih nd hm
      · rw [List.mem_singleton] at hm
        subst hm
        refine movd_small _ _ ?_
        rw [List.getD_eq_getElem?_getD]
        cases hg : f[k]? with
        | none => simp
        | some n0 => exact h n0 (List.mem_of_getElem? hg)

theorem part_can {f : List Nd} (hf : Struct f) (hr : Rising f (bOf f)) {x : Nat} (hx : x < f.length) : ∃ pl, Canon f (bOf f) (Reached f x) (partI f x) pl := by
  have hu := hf.under
  have hre := fun i => reachF_is f hu x hx i
  have hs : Shut f (fun k => (reachF f x).getD k false = true) := fun k nd hk h y hy => (hre y).2 (.opt ((hre k).1 h) hk hy)
  have h := part_canon f hf hr (fun k => (reachF f x).getD k false) hs x hx (fun k h => ((hre k).1 h).le hu)
  exact ⟨_, canon_iff h (fun k _ => hre k)⟩

/-- the part answers the game from there on -/
theorem part_sim {f out : List Nd} {x : Nat} {b pl : Nat → Nat} (hu : Under f) (h : Canon f b (Reached f x) out pl) : IsSim f out (fun i j => (i < f.length ∧ Reached f x i) ∧ j = pl i) := by
  rintro i j ⟨⟨hi, hn⟩, rfl⟩ l
  obtain ⟨nd, hnd⟩ := lt_get hi
  have ho := h.node i nd hnd hn
  have hm : ∀ r, r ∈ (if l then nd.1 else nd.2) → r < f.length ∧ Reached f x r := fun r hr => by
    have h2 : r ∈ nd.1 ∨ r ∈ nd.2 := by
      cases l
      · exact Or.inr hr
      · exact Or.inl hr
    have := hu i nd hnd r h2
    exact ⟨by omega, .opt hn hnd h2⟩
  refine ⟨fun r hr => ?_, fun s hs => ?_⟩
  · rw [optsD_mem hnd] at hr
    exact ⟨pl r, (optsD_mov ho l _).2 ⟨r, hr, rfl⟩, hm r hr, rfl⟩
  · obtain ⟨r, hr, e⟩ := (optsD_mov ho l s).1 hs
    exact ⟨r, by rw [optsD_mem hnd]; exact hr, hm r hr, e.symm⟩

theorem part_solo {f : List Nd} (hf : Struct f) (hr : Rising f (bOf f)) {x : Nat} (hx : x < f.length) (l : Bool) : 0 < (partI f x).length ∧ soloF (partI f x) ((partI f x).length - 1) l = soloF f x l := by
  obtain ⟨pl, h⟩ := part_can hf hr hx
  have hu := hf.under
  have hb := births_bOf f hu
  have hs : Shut f (Reached f x) := fun k nd hk h y hy => .opt h hk hy
  have ho := (Canon.struct hb hs hu h).under
  have hl := canon_last hu hx h
  refine ⟨by omega, ?_⟩
  rw [show (partI f x).length - 1 = pl x by omega]
  exact (solo_sim hu ho (part_sim hu h) ⟨⟨hx, .root⟩, rfl⟩ l).symm

theorem part_ord {f : List Nd} (hf : Struct f) (hr : Rising f (bOf f)) {x : Nat} (hx : x < f.length) : Struct (partI f x) ∧ RisingBy (partI f x) (bOf (partI f x)) ∧ Used (partI f x) := by
  obtain ⟨pl, h⟩ := part_can hf hr hx
  have hu := hf.under
  have hb := births_bOf f hu
  have hs : Shut f (Reached f x) := fun k nd hk h y hy => .opt h hk hy
  have hst := Canon.struct hb hs hu h
  have hri := Canon.rising hb hs hu h (births_bOf _ hst.under)
  exact ⟨hst, fun k a b h1 h2 => hri k (k + 1) a b h1 h2 (by omega), canon_used hu hx h⟩

theorem part_len (f : List Nd) (x : Nat) : (partI f x).length ≤ x + 1 := partN_llen _ _ _ _

/-- a part of a good form is a good form, played as in the form -/
theorem good_part {f : List Nz} (h : goodB f = true) {x : Nat} (hx : x < f.length) : goodB ((partI (f.map downN) x).map upN) = true ∧ ∀ l, soloF (((partI (f.map downN) x).map upN).map downN) (((partI (f.map downN) x).map upN).length - 1) l = soloF (f.map downN) x l := by
  obtain ⟨h1, h2, h3, h4⟩ := (goodB_iff f).1 h
  have hs := h2.up.2
  have hx' : x < (f.map downN).length := by simpa using hx
  obtain ⟨p1, p2, p3⟩ := part_ord hs h3.rising hx'
  have hl := fun l => part_solo hs h3.rising hx' l
  have hsm : ∀ nd ∈ f.map downN, nd.1.length ≤ 24 ∧ nd.2.length ≤ 24 := fun nd hnd => by
    obtain ⟨n0, hn0, rfl⟩ := List.mem_map.1 hnd
    have := h1.2.2 n0 hn0
    simpa [downN, downL] using this
  have hm := part_len (f.map downN) x
  refine ⟨(goodB_iff _).2 ⟨⟨by simpa using (hl true).1, by rw [List.length_map]; have := h1.2.1; omega, fun nd hnd => ?_⟩, structZ_up p1, by rw [down_up]; exact p2, by rw [down_up]; exact p3⟩, fun l => ?_⟩
  · obtain ⟨n0, hn0, rfl⟩ := List.mem_map.1 hnd
    have := partN_small (f.map downN) (fun k => (reachF (f.map downN) x).getD k false) x hsm (x + 1) n0 hn0
    simpa [upN, upL] using this
  · rw [down_up, List.length_map]
    exact (hl l).2
end

section
section
set_option linter.unusedVariables false
set_option linter.unusedSimpArgs false

/-- the nodes ahead of a top that reaches all of them, in order -/
theorem canon_cut {P out : List Nd} {x : Nd} {pl : Nat → Nat} (hu : Under (P ++ [x])) (hx : ∀ k, k < P.length → k ∈ x.1) (h : Canon (P ++ [x]) (bOf (P ++ [x])) (fun _ => True) out pl) : ∃ out', Canon P (bOf P) (fun _ => True) out' pl := by
  have hb := births_bOf _ hu
  have hl : (P ++ [x]).length = P.length + 1 := by simp
  have hn : (P ++ [x])[P.length]? = some x := by simp
  have hlt : ∀ k, k < P.length → pl k < pl P.length := fun k hk => h.born k P.length (by omega) (by omega) trivial trivial (by
    rw [hb P.length x hn]
    exact lastOf_lt _ x k (Or.inl (hx k hk)))
  have hp := h.placed (k := P.length) (by omega) trivial
  have htop : ∀ i, i < out.length → i ≤ pl P.length := fun i hi => by
    obtain ⟨k, hk, _, rfl⟩ := h.from' i hi
    rcases Nat.lt_or_ge k P.length with g | g
    · exact Nat.le_of_lt (hlt k g)
    · rw [show k = P.length by omega]; exact Nat.le_refl _
  have hg : ∀ k, k < P.length → (out.take (pl P.length))[pl k]? = out[pl k]? := fun k hk => by rw [List.getElem?_take, if_pos (hlt k hk)]
  have hbo : ∀ k, k < P.length → bOf P k = bOf (P ++ [x]) k := fun k hk => (bOf_leftL P x k hk).symm
  refine ⟨out.take (pl P.length), ⟨fun k nd hk _ => ?_, fun i hi => ?_, fun k j hk hj _ _ hb' => ?_, fun k j x' y hk hj _ _ hb' h1 h2 hlt' => ?_, fun k j hk hj _ _ he => ?_⟩⟩
  · have hkl := get_lt hk
    rw [hg k hkl]
    exact h.node k nd (by rw [List.getElem?_append_left hkl]; exact hk) trivial
  · rw [List.length_take] at hi
    obtain ⟨k, hk, _, e⟩ := h.from' i (by omega)
    refine ⟨k, ?_, trivial, e⟩
    rcases Nat.lt_or_ge k P.length with g | g
    · exact g
    · have : k = P.length := by omega
      subst this
      omega
  · rw [hbo k hk, hbo j hj] at hb'
    exact h.born k j (by omega) (by omega) trivial trivial hb'
  · rw [hbo k hk, hbo j hj] at hb'
    rw [hg k hk] at h1
    rw [hg j hj] at h2
    exact h.ahead k j x' y (by omega) (by omega) trivial trivial hb' h1 h2 hlt'
  · rw [hg k hk, hg j hj] at he
    exact h.once k j (by omega) (by omega) trivial trivial he

/-- each pile of nodes can be put into order -/
theorem canon_any {P : List Nd} (hu : Under P) : ∃ out pl, Canon P (bOf P) (fun _ => True) out pl := by
  have hu2 : Under (P ++ [(List.range P.length, [])]) := by
    intro k nd hk y hy
    rcases Nat.lt_or_ge k P.length with hlt | hge
    · rw [List.getElem?_append_left hlt] at hk
      exact hu k nd hk y hy
    · rw [List.getElem?_append_right hge] at hk
      have hl := get_lt hk
      simp at hl
      have e : k = P.length := by omega
      subst e
      simp at hk
      subst hk
      simp at hy
      exact hy
  obtain ⟨⟨pl, hc⟩, _⟩ := formM_canon _ hu2 (by simp) (fun k hk => by
    rcases Nat.lt_or_ge k P.length with hlt | hge
    · exact .opt (k := P.length) (nd := (List.range P.length, [])) (by simpa using Reached.root) (by simp) (Or.inl (by simp; exact hlt))
    · have e : k = (P ++ [(List.range P.length, ([] : List Nat))]).length - 1 := by simp at hk ⊢; omega
      rw [e]
      exact .root)
  obtain ⟨out', h⟩ := canon_cut hu2 (fun k hk => by simpa using hk) hc
  exact ⟨out', pl, h⟩

/-- births of nodes behind others -/
theorem bOf_sh (P : List Nd) {f : List Nd} (hP : Under P) (hf : Under f) : ∀ k, k < f.length → bOf (P ++ shD P.length f) (P.length + k) = bOf f k := by
  have hb := births_bOf _ (under_sh hP hf)
  have hbf := births_bOf _ hf
  intro k
  induction k using Nat.strongRecOn with
  | ind k ih =>
    intro hk
    obtain ⟨nd, hnd⟩ := lt_get hk
    have e : (P ++ shD P.length f)[P.length + k]? = some (nd.1.map (· + P.length), nd.2.map (· + P.length)) := by
      rw [List.getElem?_append_right (by omega), show P.length + k - P.length = k by omega]
      exact shD_at hnd
    rw [hb _ _ e, hbf k nd hnd]
    have hx : ∀ x, x ∈ nd.1 ∨ x ∈ nd.2 → bOf (P ++ shD P.length f) (x + P.length) = bOf f x := fun x hx => by
      have h1 := hf k nd hnd x hx
      rw [Nat.add_comm]
      exact ih x h1 (by omega)
    refine Nat.le_antisymm (lastOf_le _ _ _ fun y hy => ?_) (lastOf_le _ _ _ fun y hy => ?_)
    · have : ∃ x, (x ∈ nd.1 ∨ x ∈ nd.2) ∧ x + P.length = y := by
        simp only [List.mem_map] at hy
        rcases hy with ⟨x, h1, h2⟩ | ⟨x, h1, h2⟩
        · exact ⟨x, Or.inl h1, h2⟩
        · exact ⟨x, Or.inr h1, h2⟩
      obtain ⟨x, h1, rfl⟩ := this
      rw [hx x h1]
      exact lastOf_lt _ nd x h1
    · rw [← hx y hy]
      refine lastOf_lt _ _ _ ?_
      simp only [List.mem_map]
      rcases hy with h1 | h1
      · exact Or.inl ⟨y, h1, rfl⟩
      · exact Or.inr ⟨y, h1, rfl⟩

theorem bOf_preL (P Q : List Nd) (k : Nat) (hk : k < P.length) : bOf (P ++ Q) k = bOf P k := by
  unfold bOf
  exact getD_pre (bornsOf_pre P Q) k (by rw [bornsOf_len]; exact hk)

/-- the two games' nodes the other way round -/
theorem canon_turn {A B out : List Nd} {pl : Nat → Nat} (hA : Under A) (hB : Under B) (h : Canon (A ++ shD A.length B) (bOf (A ++ shD A.length B)) (fun _ => True) out pl) :
    Canon (B ++ shD B.length A) (bOf (B ++ shD B.length A)) (fun _ => True) out (fun k => if k < B.length then pl (A.length + k) else pl (k - B.length)) := by
  have l1 : (A ++ shD A.length B).length = A.length + B.length := by rw [List.length_append, shD_len]
  have l2 : (B ++ shD B.length A).length = B.length + A.length := by rw [List.length_append, shD_len]
  -- where a node of the turned pile stood
  have hT : ∀ k, k < B.length + A.length → ∃ t, t < A.length + B.length ∧ (if k < B.length then pl (A.length + k) else pl (k - B.length)) = pl t ∧ bOf (B ++ shD B.length A) k = bOf (A ++ shD A.length B) t := fun k hk => by
    by_cases hlt : k < B.length
    · refine ⟨A.length + k, by omega, by rw [if_pos hlt], ?_⟩
      rw [bOf_preL _ _ _ hlt, bOf_sh A hA hB k hlt]
    · refine ⟨k - B.length, by omega, by rw [if_neg hlt], ?_⟩
      rw [bOf_preL A _ _ (by omega)]
      have := bOf_sh B hB hA (k - B.length) (by omega)
      rw [show B.length + (k - B.length) = k by omega] at this
      exact this
  refine ⟨fun k nd hk _ => ?_, fun i hi => ?_, fun k j hk hj _ _ hb => ?_, fun k j x y hk hj _ _ hb h1 h2 hlt => ?_, fun k j hk hj _ _ he => ?_⟩
  · have hkl := get_lt hk
    rw [l2] at hkl
    by_cases hlt : k < B.length
    · rw [List.getElem?_append_left hlt] at hk
      have e : (A ++ shD A.length B)[A.length + k]? = some (nd.1.map (· + A.length), nd.2.map (· + A.length)) := by
        rw [List.getElem?_append_right (by omega), show A.length + k - A.length = k by omega]
        exact shD_at hk
      rw [if_pos hlt, h.node _ _ e trivial]
      refine congrArg some ?_
      have hx : ∀ x, x ∈ nd.1 ∨ x ∈ nd.2 → pl (x + A.length) = (if x < B.length then pl (A.length + x) else pl (x - B.length)) := fun x hx => by
        have := hB k nd hk x hx
        rw [if_pos (by omega), Nat.add_comm]
      unfold movd
      simp only [List.map_map, Function.comp_def]
      rw [List.map_congr_left (fun x h => hx x (Or.inl h)), List.map_congr_left (fun x h => hx x (Or.inr h))]
    · rw [List.getElem?_append_right (by omega)] at hk
      obtain ⟨x0, hx0, rfl⟩ := shD_get hk
      have hkA := get_lt hx0
      have e : (A ++ shD A.length B)[k - B.length]? = some x0 := by rw [List.getElem?_append_left hkA]; exact hx0
      rw [if_neg hlt, h.node _ _ e trivial]
      refine congrArg some ?_
      have hx : ∀ x, x ∈ x0.1 ∨ x ∈ x0.2 → pl x = (if x + B.length < B.length then pl (A.length + (x + B.length)) else pl (x + B.length - B.length)) := fun x hx => by
        rw [if_neg (by omega), Nat.add_sub_cancel]
      unfold movd
      simp only [List.map_map, Function.comp_def]
      rw [List.map_congr_left (fun x h => hx x (Or.inl h)), List.map_congr_left (fun x h => hx x (Or.inr h))]
  · obtain ⟨t, ht, _, e⟩ := h.from' i hi
    rw [l1] at ht
    by_cases hlt : t < A.length
    · exact ⟨B.length + t, by omega, trivial, by rw [if_neg (by omega), show B.length + t - B.length = t by omega]; exact e⟩
    · exact ⟨t - A.length, by omega, trivial, by rw [if_pos (by omega), show A.length + (t - A.length) = t by omega]; exact e⟩
  · obtain ⟨t, t1, t2, t3⟩ := hT k (by omega)
    obtain ⟨s, s1, s2, s3⟩ := hT j (by omega)
    rw [t3, s3] at hb
    show (if k < B.length then _ else _) < (if j < B.length then _ else _)
    rw [t2, s2]
    exact h.born t s (by omega) (by omega) trivial trivial hb
  · obtain ⟨t, t1, t2, t3⟩ := hT k (by omega)
    obtain ⟨s, s1, s2, s3⟩ := hT j (by omega)
    simp only [t2] at h1
    simp only [s2] at h2
    rw [t3, s3] at hb
    show (if k < B.length then _ else _) < (if j < B.length then _ else _)
    rw [t2, s2]
    exact h.ahead t s x y (by omega) (by omega) trivial trivial hb h1 h2 hlt
  · obtain ⟨t, t1, t2, t3⟩ := hT k (by omega)
    obtain ⟨s, s1, s2, s3⟩ := hT j (by omega)
    simp only [t2, s2] at he
    show (if k < B.length then _ else _) = (if j < B.length then _ else _)
    rw [t2, s2]
    exact h.once t s (by omega) (by omega) trivial trivial he

/-- games at one place are one game -/
theorem place_same {A B out : List Nd} {pl : Nat → Nat} (fA : Fit A) (fB : Fit B) (oA : Ord A) (oB : Ord B) (hc : Canon (A ++ shD A.length B) (bOf (A ++ shD A.length B)) (fun _ => True) out pl) (he : pl (A.length - 1) = pl (A.length + B.length - 1)) : A = B := by
  have pA := fA.pos
  have pB := fB.pos
  have hu := two_under fA.under fB.under
  have hb := births_bOf _ hu
  have hsh : Shut (A ++ shD A.length B) (fun _ => True) := fun _ _ _ _ _ _ => trivial
  have hs := Canon.struct hb hsh hu hc
  have hbo := births_bOf out hs.under
  have hri := Canon.rising hb hsh hu hc hbo
  have hrb : RisingBy out (bOf out) := fun k a b h1 h2 => hri k (k + 1) a b h1 h2 (by omega)
  have PA : partI out (pl (A.length - 1)) = A := part_back (q := pl) oA.struct oA.rise oA.used pA hs hrb fun k nd hk => hc.node k nd (by rw [List.getElem?_append_left (get_lt hk)]; exact hk) trivial
  have PB : partI out (pl (A.length + B.length - 1)) = B := by
    have := part_back (q := fun k => pl (A.length + k)) oB.struct oB.rise oB.used pB hs hrb fun k nd hk => by
      have h1 := hc.node (A.length + k) (nd.1.map (· + A.length), nd.2.map (· + A.length)) (by
        rw [List.getElem?_append_right (by omega), show A.length + k - A.length = k by omega]
        exact shD_at hk) trivial
      rw [h1]
      refine congrArg some ?_
      unfold movd
      simp only [List.map_map, Function.comp_def, Nat.add_comm]
    rw [show A.length + (B.length - 1) = A.length + B.length - 1 by omega] at this
    exact this
  rw [← he, PA] at PB
  exact PB

/-- of two good games one is ahead, if they are not the same -/
theorem less_turn {f g : List Nz} (hf : goodB f = true) (hg : goodB g = true) (hne : f ≠ g) : lessV g f = !lessV f g := by
  have fA := good_fit hf
  have fB := good_fit hg
  have oA := good_ord hf
  have oB := good_ord hg
  have hAB : f.map downN ≠ g.map downN := fun e => hne (by
    rw [← ((goodB_iff f).1 hf).2.1.up.1, ← ((goodB_iff g).1 hg).2.1.up.1, e])
  unfold lessV
  rw [hf, hg]
  generalize f.map downN = A at fA oA hAB
  generalize g.map downN = B at fB oB hAB
  obtain ⟨out, pl, hc⟩ := canon_any (two_under fA.under fB.under)
  have hc2 := canon_turn fA.under fB.under hc
  have pA := fA.pos
  have pB := fB.pos
  have h1 := less_is fA fB oA oB hc
  have h2 := less_is fB fA oB oA hc2
  rw [if_pos (by omega), if_neg (by omega), show A.length + (B.length - 1) = A.length + B.length - 1 by omega, show B.length + A.length - 1 - B.length = A.length - 1 by omega] at h2
  have hd : pl (A.length - 1) ≠ pl (A.length + B.length - 1) := fun e => hAB (place_same fA fB oA oB hc e)
  simp only [Bool.and_self, Bool.true_and, h1, h2]
  by_cases hlt : pl (A.length - 1) < pl (A.length + B.length - 1)
  · rw [decide_eq_true hlt, decide_eq_false (by omega)]; rfl
  · rw [decide_eq_false hlt, decide_eq_true (by omega)]; rfl

theorem less_self (f : List Nz) : lessV f f = false := by
  unfold lessV lessD
  simp
end

section
open Go.RowKit
set_option linter.unusedVariables false
set_option linter.unusedSimpArgs false

/-- what a draw of two hands back -/
def DrawTwo (w : World) (e : Ending) (w' : World) : Prop := ∃ (a : Option Addr) (c : Nat) (f : List Nz) (a' : Option Addr) (c' : Nat) (f' : List Nz), e = .returned (.tuple #[.agg #[.slice a f.length c], .agg #[.slice a' f'.length c']]) ∧ NodesZ w' w.heap.size w'.heap.size (.slice a f.length c) f ∧ NodesZ w' w.heap.size w'.heap.size (.slice a' f'.length c') f' ∧ Below w.heap.size w w'

set_option maxRecDepth 100000 in
set_option maxHeartbeats 4000000 in
theorem drawSame_calls (ao : Option Addr) (n cc : Nat) (w : World) (hc : CodeIn w (.slice ao n cc) n) (hn : n ≤ 1000000) :
    Calls Try.prog 54 #[.slice ao n cc] w (DrawTwo w) := by
  have z0 : ((w.alloc (.cells #[.slice none 0 0] 28)).alloc (.cells #[.slice none 0 0] 28)).heap.size = w.heap.size + 2 := by simp
  have b0 : Below w.heap.size w ((w.alloc (.cells #[.slice none 0 0] 28)).alloc (.cells #[.slice none 0 0] 28)) := ((Below.refl _ _).alloc (Nat.le_refl _) _).alloc (by simp) _
  have x0 : BoxAt ((w.alloc (.cells #[.slice none 0 0] 28)).alloc (.cells #[.slice none 0 0] 28)) w.heap.size (.slice none 0 0) := (BoxAt.below (w := w.alloc (.cells #[.slice none 0 0] 28)) ⟨by go_simp, by go_simp⟩ ((Below.refl _ _).alloc (Nat.le_refl _) _))
  have x1 : BoxAt ((w.alloc (.cells #[.slice none 0 0] 28)).alloc (.cells #[.slice none 0 0] 28)) (w.heap.size + 1) (.slice none 0 0) := by
    have h : (w.alloc (.cells #[.slice none 0 0] 28)).heap.size = w.heap.size + 1 := by simp
    rw [← h]
    exact ⟨by go_simp, by go_simp⟩
  have hc0 := hc.below b0
  have B0 := Lib.hid b0
  have X0 := Lib.hid x0
  have X1 := Lib.hid x1
  clear hc b0 x0 x1
  go_enter Try.func54, Try.ntmps54
  go_upto_region 1 with fail
  generalize ((w.alloc (.cells #[.slice none 0 0] 28)).alloc (.cells #[.slice none 0 0] 28)) = w0 at z0 hc0 B0 X0 X1 ⊢
  have hbq : Below w0.heap.size w0 (w0.alloc (.cells #[.slice ao n cc, .int .i64 0, .int .u64 0] 52)) := (Below.refl _ _).alloc (Nat.le_refl _) _
  have hzq : (w0.alloc (.cells #[.slice ao n cc, .int .i64 0, .int .u64 0] 52)).heap.size = w0.heap.size + 1 := by simp
  have CA := Lib.hid fun (W : World) (N : Nat) (hN : N ≤ 1000) (h : Cur w0 W (w.heap.size + 2) (.slice ao n cc) N) => any_draw w0 W (w.heap.size + 2) n N (.slice ao n cc) hc0 hn h 2 (by omega) (by omega)
  have CO := Lib.hid fun (W : World) (N : Nat) (hN : N ≤ 1000) (h : Cur w0 W (w.heap.size + 2) (.slice ao n cc) N) => one_calls w0 W (w.heap.size + 2) n N 2 (.slice ao n cc) hc0 hn h (by omega) (by omega) (by omega)
  have HC1 : Hid (Cur w0 (w0.alloc (.cells #[.slice ao n cc, .int .i64 0, .int .u64 0] 52)) (w.heap.size + 2) (.slice ao n cc) 0) := Lib.hid (by rw [← z0]; exact cur_new _ _)
  have C := Lib.hid (CA.out _ 0 (by omega) HC1.out)
  have X0 := Lib.hid (X0.out.below hbq)
  have X1 := Lib.hid (X1.out.below hbq)
  have B1 := Lib.hid (B0.out.trans (hbq.mono (by omega)))
  clear hc0 hbq B0 HC1
  go_upto_region 2 with fail
  generalize (w0.alloc (.cells #[.slice ao n cc, .int .i64 0, .int .u64 0] 52)) = wq at hzq X0 X1 B1 C ⊢
  go_wp2_with fail
  refine C.out.mono ?_
  rintro e w1 ⟨a, c, f, rfl, hz, hl, hC1, ho⟩
  have x0 := X0.out.only ho (by omega)
  have x1 := X1.out.only ho (by omega)
  have b1 := B1.out.trans (ho.below (base := w.heap.size) (by omega) (fun g e => by omega))
  have s1 := ho.size
  rw [hzq] at s1 hz
  have hal : Below w1.heap.size w1 (w1.alloc (.cells #[.slice a f.length c] 28)) := (Below.refl _ _).alloc (Nat.le_refl _) _
  have k5 : (w1.alloc (.cells #[.slice a f.length c] 28)).cell? ⟨w1.heap.size, 0, none⟩ = some (.slice a f.length c) := by go_simp
  have hz2 := hz.below hal (Nat.le_refl _)
  have hB5 : w1.heap.size < (w1.alloc (.cells #[.slice a f.length c] 28)).heap.size := by simp
  have X0 := Lib.hid (x0.below hal)
  have X1 := Lib.hid (x1.below hal)
  have B2 := Lib.hid (b1.trans (hal.mono (by omega)))
  have HC2 := Lib.hid (hC1.below hal)
  have HN := Lib.hid hz2
  clear hz hC1 ho x0 x1 b1 hal hz2 C hzq B1
  go_upto_region 3 with fail
  generalize (w1.alloc (.cells #[.slice a f.length c] 28)) = w2 at k5 hB5 X0 X1 B2 HC2 HN ⊢
  generalize w1.heap.size = B5 at k5 hB5 s1 HN ⊢
  go_wp2_with fail
  refine (CO.out _ _ (by omega) HC2.out).mono ?_
  rintro e w3 ⟨⟨yes, rfl⟩, hC3, hg3⟩
  have o3 := only_cur hg3
  have s3 := o3.size
  replace k5 := (o3.cell (by omega) (by omega)).trans k5
  replace X0 := Lib.hid (X0.out.only o3 (by omega))
  replace X1 := Lib.hid (X1.out.only o3 (by omega))
  have hlw2 := B2.out.size
  replace B2 := Lib.hid (B2.out.trans (o3.below (base := w.heap.size) (by omega) (fun g e => by omega)))
  replace HC2 := Lib.hid hC3
  replace HN := Lib.hid (HN.out.keep (fun b o h1 h2 => o3.cell (by omega) (by omega)))
  replace hB5 : B5 < w3.heap.size := by omega
  clear o3 hC3 hg3 CO hlw2
  have hbd : Below w3.heap.size w3 w3.drew := below_drewN (Below.refl _ _) 1
  have HSW := Lib.hid fun (W : World) (h : Only w3 W (fun b => b = w.heap.size + 2 ∨ b = w.heap.size ∨ b = w.heap.size + 1)) => show W.cell? ⟨B5, 0, none⟩ = some (.slice a f.length c) ∧ Only w3 W (fun b => b = w.heap.size + 2 ∨ b = w.heap.size ∨ b = w.heap.size + 1) from ⟨(h.cell (by omega) (by omega)).trans k5, h⟩
  have hS0 := HSW.out _ (Only.of_below hbd)
  have HFIN := Lib.hid fun (W wb : World) (a2 : Option Addr) (c2 : Nat) (f2 : List Nz) (hS : Only w3 W (fun b => b = w.heap.size + 2 ∨ b = w.heap.size ∨ b = w.heap.size + 1)) (hs : w3.heap.size ≤ wb.heap.size) (h2 : NodesZ wb w3.heap.size wb.heap.size (.slice a2 f2.length c2) f2) (hw : Only wb W (fun b => b = w.heap.size ∨ b = w.heap.size + 1)) => show DrawTwo w (.returned (.tuple #[.agg #[.slice a f.length c], .agg #[.slice a2 f2.length c2]])) W from by
    have e1 := hS.size
    have e2 := hw.size
    have e3 := B2.out.size
    exact ⟨a, c, f, a2, c2, f2, rfl, (HN.out.keep (fun b o h1 h2 => hS.cell (by omega) (by omega))).wide (by omega) (by omega), (h2.keep (fun b o h1 h2 => hw.cell h2 (by omega))).wide (by omega) (by omega), B2.out.trans (hS.below (by omega) (fun g e => by omega))⟩
  have HX := Lib.hid fun (W : World) (h : Only w3 W (fun b => b = w.heap.size + 2)) => show BoxAt W w.heap.size (.slice none 0 0) ∧ BoxAt W (w.heap.size + 1) (.slice none 0 0) from ⟨X0.out.only h (by omega), X1.out.only h (by omega)⟩
  have hXd := HX.out _ (Only.of_below hbd)
  obtain ⟨⟨xd0, xf0⟩, xd1, xf1⟩ := hXd
  have cd := HC2.out.below hbd
  have hlw := B2.out.size
  cases yes with
  | false =>
    go_wp2_with fail
    refine wp_region_held_drew (S := (fun W : World => W.cell? ⟨B5, 0, none⟩ = some (.slice a f.length c) ∧ Only w3 W (fun b => b = w.heap.size + 2 ∨ b = w.heap.size ∨ b = w.heap.size + 1))) (by kernel_rfl) hS0 (fun hHeld => ?_)

    refine wpAnyH_take (i := 0) (v := ?_) rfl (by kernel_rfl) (by kernel_rfl) (by kernel_rfl) (fun _ _ _ h => h) (Or.inl ⟨by rfl, ?_⟩) hHeld ?_
    rotate_left
    · intro W hW
      obtain ⟨z1, z2⟩ := hW
      first | (go_simp; done) | (go_simp; with_reducible rfl)
    try simp only [List.getElem_toArray, List.getElem_cons_succ, List.getElem_cons_zero, Act.put, List.setIfInBounds_toArray, List.set_cons_zero, List.set_cons_succ]
    refine wpAnyH_take (i := 1) (v := ?_) rfl (by kernel_rfl) (by kernel_rfl) (by kernel_rfl) (fun _ _ _ h => h) (Or.inl ⟨by rfl, ?_⟩) hHeld ?_
    rotate_left
    · intro W hW
      obtain ⟨z1, z2⟩ := hW
      first | (go_simp; done) | (go_simp; with_reducible rfl)
    try simp only [List.getElem_toArray, List.getElem_cons_succ, List.getElem_cons_zero, Act.put, List.setIfInBounds_toArray, List.set_cons_zero, List.set_cons_succ]
    refine wpAnyH_ready (rs := [2]) (by kernel_rfl) (by simp) ?_
    refine AllReadyH.cons rfl (fun K hK => ?_) AllReadyH.nil
    go_simp
    go_at_call 30
    refine (CA.out _ _ (by omega) cd).mono ?_
    rintro e wb ⟨a2, c2, f2, rfl, hz2, hl2, _, hob⟩
    have hwb : Only w3 wb (fun b => b = w.heap.size + 2 ∨ b = w.heap.size ∨ b = w.heap.size + 1) := (Only.of_below hbd).trans hob (fun _ _ h => Or.inl h)
    have hsb := hwb.size
    have hz3 : NodesZ wb w3.heap.size wb.heap.size (.slice a2 f2.length c2) f2 := hz2.wide (by have := hbd.size; omega) (Nat.le_refl _)
    have y0c := (BoxAt.only (F := fun b => b = w.heap.size + 2) (v := .slice none 0 0) ⟨xd0, xf0⟩ hob (by omega)).1
    have y0g := (BoxAt.only (F := fun b => b = w.heap.size + 2) (v := .slice none 0 0) ⟨xd0, xf0⟩ hob (by omega)).2
    have y1c := (BoxAt.only (F := fun b => b = w.heap.size + 2) (v := .slice none 0 0) ⟨xd1, xf1⟩ hob (by omega)).1
    have y1g := (BoxAt.only (F := fun b => b = w.heap.size + 2) (v := .slice none 0 0) ⟨xd1, xf1⟩ hob (by omega)).2
    have HZ3 := Lib.hid hz3
    clear hz2 hz3 hob
    go_wp2_with fail
    have hSb := HSW.out _ hwb
    refine hK.out _ _ (hSb) (fun hHb => ?_)
    clear hK K
    try simp only [List.getElem_toArray, List.getElem_cons_succ, List.getElem_cons_zero, Act.put, List.setIfInBounds_toArray, List.set_cons_zero, List.set_cons_succ]
    refine wpAnyH_ready (rs := [3]) (by kernel_rfl) (by simp) ?_
    refine AllReadyH.cons rfl (fun K hK => ?_) AllReadyH.nil
    go_simp
    have hn1 : Only wb (wb.setCell ⟨w.heap.size, 0, none⟩ (.slice a f.length c)) (fun b => b = w.heap.size ∨ b = w.heap.size + 1) := (Only.of_set (w := wb) (p := ⟨w.heap.size, 0, none⟩) (F := fun b => b = w.heap.size ∨ b = w.heap.size + 1) (.slice a f.length c) (by first | exact Or.inl rfl | exact Or.inr rfl))
    have hd : (wb.setCell ⟨w.heap.size, 0, none⟩ (.slice a f.length c)).cell? ⟨w.heap.size + 1, 0, none⟩ = some (.slice none 0 0) := (World.cell?_setCell_other _ _ _ _ (by simp)).trans y1c
    have hf : (wb.setCell ⟨w.heap.size, 0, none⟩ (.slice a f.length c)).frozen? ⟨w.heap.size + 1, 0, none⟩ = false := by rw [World.frozen?_setCell]; exact y1g
    refine hK.out _ _ (HSW.out _ (hwb.trans hn1 (fun _ _ h => Or.inr h))) (fun hHc => ?_)
    clear hK K
    try simp only [List.getElem_toArray, List.getElem_cons_succ, List.getElem_cons_zero, Act.put, List.setIfInBounds_toArray, List.set_cons_zero, List.set_cons_succ]
    refine wpAnyH_ready (rs := [4]) (by kernel_rfl) (by simp) ?_
    refine AllReadyH.cons rfl (fun K hK => ?_) AllReadyH.nil
    go_simp
    have hn2 : Only wb ((wb.setCell ⟨w.heap.size, 0, none⟩ (.slice a f.length c)).setCell ⟨w.heap.size + 1, 0, none⟩ (.slice a2 f2.length c2)) (fun b => b = w.heap.size ∨ b = w.heap.size + 1) := hn1.trans (Only.of_set (w := (wb.setCell ⟨w.heap.size, 0, none⟩ (.slice a f.length c))) (p := ⟨w.heap.size + 1, 0, none⟩) (F := fun b => b = w.heap.size ∨ b = w.heap.size + 1) (.slice a2 f2.length c2) (by first | exact Or.inl rfl | exact Or.inr rfl)) (fun _ _ h => h)
    refine hK.out _ _ (HSW.out _ (hwb.trans hn2 (fun _ _ h => Or.inr h))) (fun hHd => ?_)
    clear hK K
    try simp only [List.getElem_toArray, List.getElem_cons_succ, List.getElem_cons_zero, Act.put, List.setIfInBounds_toArray, List.set_cons_zero, List.set_cons_succ]
    refine wpAnyH_done (by kernel_rfl) ?_ _
    have hw3 : Only wb ((wb.setCell ⟨w.heap.size, 0, none⟩ (.slice a f.length c)).setCell ⟨w.heap.size + 1, 0, none⟩ (.slice a2 f2.length c2)) (fun b => b = w.heap.size ∨ b = w.heap.size + 1) := hn2
    have hE := HFIN.out ((wb.setCell ⟨w.heap.size, 0, none⟩ (.slice a f.length c)).setCell ⟨w.heap.size + 1, 0, none⟩ (.slice a2 f2.length c2)) wb a2 c2 f2 (hwb.trans hw3 (fun _ _ h => Or.inr h)) hsb HZ3.out hw3
    have HE := Lib.hid hE
    have r0 : ((wb.setCell ⟨w.heap.size, 0, none⟩ (.slice a f.length c)).setCell ⟨w.heap.size + 1, 0, none⟩ (.slice a2 f2.length c2)).cell? ⟨w.heap.size, 0, none⟩ = some (.slice a f.length c) := (World.cell?_setCell_other _ _ _ _ (by simp)).trans (World.cell?_setCell_same _ _ _ y0c)
    have r1 : ((wb.setCell ⟨w.heap.size, 0, none⟩ (.slice a f.length c)).setCell ⟨w.heap.size + 1, 0, none⟩ (.slice a2 f2.length c2)).cell? ⟨w.heap.size + 1, 0, none⟩ = some (.slice a2 f2.length c2) := World.cell?_setCell_same _ _ _ hd
    generalize ((wb.setCell ⟨w.heap.size, 0, none⟩ (.slice a f.length c)).setCell ⟨w.heap.size + 1, 0, none⟩ (.slice a2 f2.length c2)) = wz at r0 r1 HE ⊢
    clear hw3 hE HFIN HSW CA
    go_wp2_with fail
    exact bodyPost_ret (v := .tuple #[.agg #[.slice a f.length c], .agg #[.slice a2 f2.length c2]]) (by simp [results, Try.results54, go_sem, r0, r1]) rfl HE.out
  | true =>
    obtain ⟨xw0, xg0⟩ := X0.out
    obtain ⟨xw1, xg1⟩ := X1.out
    have hn1 : Only w3.drew (w3.drew.setCell ⟨w.heap.size, 0, none⟩ (.slice a f.length c)) (fun b => b = w.heap.size ∨ b = w.heap.size + 1) := (Only.of_set (w := w3.drew) (p := ⟨w.heap.size, 0, none⟩) (F := fun b => b = w.heap.size ∨ b = w.heap.size + 1) (.slice a f.length c) (Or.inl rfl))
    have hd : (w3.drew.setCell ⟨w.heap.size, 0, none⟩ (.slice a f.length c)).cell? ⟨w.heap.size + 1, 0, none⟩ = some (.slice none 0 0) := (World.cell?_setCell_other _ _ _ _ (by simp)).trans xd1
    have hf : (w3.drew.setCell ⟨w.heap.size, 0, none⟩ (.slice a f.length c)).frozen? ⟨w.heap.size + 1, 0, none⟩ = false := by rw [World.frozen?_setCell]; exact xf1
    have hn2 : Only w3.drew ((w3.drew.setCell ⟨w.heap.size, 0, none⟩ (.slice a f.length c)).setCell ⟨w.heap.size + 1, 0, none⟩ (.slice a f.length c)) (fun b => b = w.heap.size ∨ b = w.heap.size + 1) := hn1.trans (Only.of_set (w := (w3.drew.setCell ⟨w.heap.size, 0, none⟩ (.slice a f.length c))) (p := ⟨w.heap.size + 1, 0, none⟩) (F := fun b => b = w.heap.size ∨ b = w.heap.size + 1) (.slice a f.length c) (Or.inr rfl)) (fun _ _ h => h)
    have o31 : Only w3 (w3.drew.setCell ⟨w.heap.size, 0, none⟩ (.slice a f.length c)) (fun b => b = w.heap.size + 2 ∨ b = w.heap.size ∨ b = w.heap.size + 1) := (Only.of_below hbd).trans hn1 (fun _ _ h => Or.inr h)
    have o32 : Only w3 ((w3.drew.setCell ⟨w.heap.size, 0, none⟩ (.slice a f.length c)).setCell ⟨w.heap.size + 1, 0, none⟩ (.slice a f.length c)) (fun b => b = w.heap.size + 2 ∨ b = w.heap.size ∨ b = w.heap.size + 1) := (Only.of_below hbd).trans hn2 (fun _ _ h => Or.inr h)
    have s32 := o32.size
    have r0 : ((w3.drew.setCell ⟨w.heap.size, 0, none⟩ (.slice a f.length c)).setCell ⟨w.heap.size + 1, 0, none⟩ (.slice a f.length c)).cell? ⟨w.heap.size, 0, none⟩ = some (.slice a f.length c) := (World.cell?_setCell_other _ _ _ _ (by simp)).trans (World.cell?_setCell_same _ _ _ xd0)
    have r1 : ((w3.drew.setCell ⟨w.heap.size, 0, none⟩ (.slice a f.length c)).setCell ⟨w.heap.size + 1, 0, none⟩ (.slice a f.length c)).cell? ⟨w.heap.size + 1, 0, none⟩ = some (.slice a f.length c) := World.cell?_setCell_same _ _ _ hd
    have HE : Hid (DrawTwo w (.returned (.tuple #[.agg #[.slice a f.length c], .agg #[.slice a f.length c]])) ((w3.drew.setCell ⟨w.heap.size, 0, none⟩ (.slice a f.length c)).setCell ⟨w.heap.size + 1, 0, none⟩ (.slice a f.length c))) := Lib.hid (by
      have hnn := (HN.out.keep (fun b o h1 h2 => o32.cell (by omega) (by omega))).wide (lo' := w.heap.size) (by omega) (hi' := ((w3.drew.setCell ⟨w.heap.size, 0, none⟩ (.slice a f.length c)).setCell ⟨w.heap.size + 1, 0, none⟩ (.slice a f.length c)).heap.size) (by omega)
      exact ⟨a, c, f, a, c, f, rfl, hnn, hnn, B2.out.trans (o32.below (by omega) (fun g e => by omega))⟩)
    clear HFIN HX CA
    go_wp2_with fail
    refine wp_region_held_drew (S := (fun W : World => W.cell? ⟨B5, 0, none⟩ = some (.slice a f.length c) ∧ Only w3 W (fun b => b = w.heap.size + 2 ∨ b = w.heap.size ∨ b = w.heap.size + 1))) (by kernel_rfl) hS0 (fun hHeld => ?_)
    refine wpAnyH_take (i := 0) (v := ?_) rfl (by kernel_rfl) (by kernel_rfl) (by kernel_rfl) (fun _ _ _ h => h) (Or.inl ⟨by rfl, ?_⟩) hHeld ?_
    rotate_left
    · intro W hW
      obtain ⟨z1, z2⟩ := hW
      first | (go_simp; done) | (go_simp; with_reducible rfl)
    try simp only [List.getElem_toArray, List.getElem_cons_succ, List.getElem_cons_zero, Act.put, List.setIfInBounds_toArray, List.set_cons_zero, List.set_cons_succ]
    refine wpAnyH_take (i := 1) (v := ?_) rfl (by kernel_rfl) (by kernel_rfl) (by kernel_rfl) (fun _ _ _ h => h) (Or.inl ⟨by rfl, ?_⟩) hHeld ?_
    rotate_left
    · intro W hW
      obtain ⟨z1, z2⟩ := hW
      first | (go_simp; done) | (go_simp; with_reducible rfl)
    try simp only [List.getElem_toArray, List.getElem_cons_succ, List.getElem_cons_zero, Act.put, List.setIfInBounds_toArray, List.set_cons_zero, List.set_cons_succ]
    refine wpAnyH_ready (rs := [2]) (by kernel_rfl) (by simp) ?_
    refine AllReadyH.cons rfl (fun K hK => ?_) AllReadyH.nil
    go_simp
    refine hK.out _ _ (HSW.out _ o31) (fun hHx2 => ?_)
    clear hK K
    try simp only [List.getElem_toArray, List.getElem_cons_succ, List.getElem_cons_zero, Act.put, List.setIfInBounds_toArray, List.set_cons_zero, List.set_cons_succ]
    refine wpAnyH_ready (rs := [3]) (by kernel_rfl) (by simp) ?_
    refine AllReadyH.cons rfl (fun K hK => ?_) AllReadyH.nil
    go_simp
    refine hK.out _ _ (HSW.out _ o32) (fun hHx3 => ?_)
    clear hK K
    try simp only [List.getElem_toArray, List.getElem_cons_succ, List.getElem_cons_zero, Act.put, List.setIfInBounds_toArray, List.set_cons_zero, List.set_cons_succ]
    refine wpAnyH_done (by kernel_rfl) ?_ _
    have r2 : ((w3.setCell ⟨w.heap.size, 0, none⟩ (.slice a f.length c)).setCell ⟨w.heap.size + 1, 0, none⟩ (.slice a f.length c)).drew.cell? ⟨w.heap.size, 0, none⟩ = some (.slice a f.length c) := r0
    have r3 : ((w3.setCell ⟨w.heap.size, 0, none⟩ (.slice a f.length c)).setCell ⟨w.heap.size + 1, 0, none⟩ (.slice a f.length c)).drew.cell? ⟨w.heap.size + 1, 0, none⟩ = some (.slice a f.length c) := r1
    have HE2 : Hid (DrawTwo w (.returned (.tuple #[.agg #[.slice a f.length c], .agg #[.slice a f.length c]])) ((w3.setCell ⟨w.heap.size, 0, none⟩ (.slice a f.length c)).setCell ⟨w.heap.size + 1, 0, none⟩ (.slice a f.length c)).drew) := HE
    clear r0 r1 HE
    generalize ((w3.setCell ⟨w.heap.size, 0, none⟩ (.slice a f.length c)).setCell ⟨w.heap.size + 1, 0, none⟩ (.slice a f.length c)).drew = wz at r2 r3 HE2 ⊢
    clear hn1 hn2 o31 o32 HSW hd hf
    go_wp2_with fail
    exact bodyPost_ret (v := .tuple #[.agg #[.slice a f.length c], .agg #[.slice a f.length c]]) (by simp [results, Try.results54, go_sem, r2, r3]) rfl HE2.out

set_option maxHeartbeats 4000000 in
theorem drawLess_calls (ao : Option Addr) (n cc : Nat) (w : World) (hc : CodeIn w (.slice ao n cc) n) (hn : n ≤ 1000000) :
    Calls Try.prog 24 #[.slice ao n cc] w (DrawTwo w) := by
  have z0 : ((w.alloc (.cells #[.slice none 0 0] 28)).alloc (.cells #[.slice none 0 0] 28)).heap.size = w.heap.size + 2 := by simp
  have b0 : Below w.heap.size w ((w.alloc (.cells #[.slice none 0 0] 28)).alloc (.cells #[.slice none 0 0] 28)) := ((Below.refl _ _).alloc (Nat.le_refl _) _).alloc (by simp) _
  have x0 : BoxAt ((w.alloc (.cells #[.slice none 0 0] 28)).alloc (.cells #[.slice none 0 0] 28)) w.heap.size (.slice none 0 0) := (BoxAt.below (w := w.alloc (.cells #[.slice none 0 0] 28)) ⟨by go_simp, by go_simp⟩ ((Below.refl _ _).alloc (Nat.le_refl _) _))
  have x1 : BoxAt ((w.alloc (.cells #[.slice none 0 0] 28)).alloc (.cells #[.slice none 0 0] 28)) (w.heap.size + 1) (.slice none 0 0) := by
    have h : (w.alloc (.cells #[.slice none 0 0] 28)).heap.size = w.heap.size + 1 := by simp
    rw [← h]
    exact ⟨by go_simp, by go_simp⟩
  have C := Lib.hid (drawSame_calls ao n cc _ (hc.below b0) hn)
  have B0 := Lib.hid b0
  have X0 := Lib.hid x0
  have X1 := Lib.hid x1
  clear hc b0 x0 x1 hn
  go_enter Try.func24, Try.ntmps24
  go_upto_region 1 with fail
  generalize ((w.alloc (.cells #[.slice none 0 0] 28)).alloc (.cells #[.slice none 0 0] 28)) = w0 at z0 B0 X0 X1 C ⊢
  go_wp2_with fail
  refine C.out.mono ?_
  rintro e wc ⟨a, c, f, a2, c2, f2, rfl, hza, hzc, hbc⟩
  obtain ⟨y0c, y0g⟩ := X0.out.below hbc
  obtain ⟨y1c, y1g⟩ := X1.out.below hbc
  have sc := hbc.size
  have hn1 : Only wc (wc.setCell ⟨w.heap.size, 0, none⟩ (.slice a f.length c)) (fun b => b = w.heap.size ∨ b = w.heap.size + 1) := (Only.of_set (w := wc) (p := ⟨w.heap.size, 0, none⟩) (F := fun b => b = w.heap.size ∨ b = w.heap.size + 1) (.slice a f.length c) (Or.inl rfl))
  have hd : (wc.setCell ⟨w.heap.size, 0, none⟩ (.slice a f.length c)).cell? ⟨w.heap.size + 1, 0, none⟩ = some (.slice none 0 0) := (World.cell?_setCell_other _ _ _ _ (by simp)).trans y1c
  have hf : (wc.setCell ⟨w.heap.size, 0, none⟩ (.slice a f.length c)).frozen? ⟨w.heap.size + 1, 0, none⟩ = false := by rw [World.frozen?_setCell]; exact y1g
  have hn2 : Only wc ((wc.setCell ⟨w.heap.size, 0, none⟩ (.slice a f.length c)).setCell ⟨w.heap.size + 1, 0, none⟩ (.slice a2 f2.length c2)) (fun b => b = w.heap.size ∨ b = w.heap.size + 1) := hn1.trans (Only.of_set (w := (wc.setCell ⟨w.heap.size, 0, none⟩ (.slice a f.length c))) (p := ⟨w.heap.size + 1, 0, none⟩) (F := fun b => b = w.heap.size ∨ b = w.heap.size + 1) (.slice a2 f2.length c2) (Or.inr rfl)) (fun _ _ h => h)
  have s2 := hn2.size
  have HE : Hid (DrawTwo w (.returned (.tuple #[.agg #[.slice a f.length c], .agg #[.slice a2 f2.length c2]])) ((wc.setCell ⟨w.heap.size, 0, none⟩ (.slice a f.length c)).setCell ⟨w.heap.size + 1, 0, none⟩ (.slice a2 f2.length c2))) := Lib.hid (by
    refine ⟨a, c, f, a2, c2, f2, rfl, ?_, ?_, ?_⟩
    · exact (hza.keep (fun b o h1 h2 => hn2.cell h2 (by omega))).wide (by omega) s2
    · exact (hzc.keep (fun b o h1 h2 => hn2.cell h2 (by omega))).wide (by omega) s2
    · exact (B0.out.trans (hbc.mono (by omega))).trans (hn2.below (by omega) (fun g e => by omega)))
  have r0 : ((wc.setCell ⟨w.heap.size, 0, none⟩ (.slice a f.length c)).setCell ⟨w.heap.size + 1, 0, none⟩ (.slice a2 f2.length c2)).cell? ⟨w.heap.size, 0, none⟩ = some (.slice a f.length c) := (World.cell?_setCell_other _ _ _ _ (by simp)).trans (World.cell?_setCell_same _ _ _ y0c)
  have r1 : ((wc.setCell ⟨w.heap.size, 0, none⟩ (.slice a f.length c)).setCell ⟨w.heap.size + 1, 0, none⟩ (.slice a2 f2.length c2)).cell? ⟨w.heap.size + 1, 0, none⟩ = some (.slice a2 f2.length c2) := World.cell?_setCell_same _ _ _ hd
  clear hn1 hn2 hza hzc hbc X0 X1 B0 C
  go_wp2_with fail
  exact bodyPost_ret (v := .tuple #[.agg #[.slice a f.length c], .agg #[.slice a2 f2.length c2]]) (by simp [results, Try.results24, go_sem, r0, r1]) rfl HE.out
end
end

section
set_option linter.unusedVariables false
set_option linter.unusedSimpArgs false

/-- nodes cut out of nodes in order keep their order -/
theorem cut_mono {f : List Nd} (hf : Struct f) (hr : Rising f (bOf f)) (need : Nat → Bool) (hs : Shut f (fun k => need k = true)) (top : Nat) (htop : top < f.length) (hle : ∀ k, need k = true → k ≤ top) :
    ∃ q : Nat → Nat, Canon f (bOf f) (fun k => need k = true) (partN f need top (top + 1)).2 q ∧ ∀ k j, k < j → need k = true → need j = true → q k < q j :=
  ⟨_, part_canon f hf hr need hs top htop hle, fun k j h h1 h2 => (part_is f hf.under need hs top htop (top + 1) (Nat.le_refl _)).mono k j h (by have := hle j h2; omega) h1 h2⟩

theorem part_mono {f : List Nd} (hf : Struct f) (hr : Rising f (bOf f)) {x : Nat} (hx : x < f.length) : ∃ q : Nat → Nat, Canon f (bOf f) (Reached f x) (partI f x) q ∧ ∀ k j, k < j → Reached f x k → Reached f x j → q k < q j := by
  have hu := hf.under
  have hre := fun i => reachF_is f hu x hx i
  obtain ⟨q, h1, h2⟩ := cut_mono hf hr (fun k => (reachF f x).getD k false) (fun k nd hk h y hy => (hre y).2 (.opt ((hre k).1 h) hk hy)) x hx (fun k h => ((hre k).1 h).le hu)
  exact ⟨q, canon_iff h1 (fun k _ => hre k), fun k j h a b => h2 k j h ((hre k).2 a) ((hre j).2 b)⟩

/-- where a part's node stood -/
theorem part_from {f : List Nd} (hf : Struct f) (hr : Rising f (bOf f)) {x : Nat} (hx : x < f.length) : ∃ (q t : Nat → Nat), Canon f (bOf f) (Reached f x) (partI f x) q ∧ (∀ k, k < (partI f x).length → t k < f.length ∧ Reached f x (t k) ∧ q (t k) = k) ∧ (∀ j, j < f.length → Reached f x j → t (q j) = j) ∧ t ((partI f x).length - 1) = x := by
  obtain ⟨q, hc, hm⟩ := part_mono hf hr hx
  have hu := hf.under
  have hinj : ∀ a b, Reached f x a → Reached f x b → q a = q b → a = b := fun a b ha hb e => by
    rcases Nat.lt_trichotomy a b with h | h | h
    · have := hm a b h ha hb; omega
    · exact h
    · have := hm b a h hb ha; omega
  have hex : ∀ k, ∃ j, k < (partI f x).length → j < f.length ∧ Reached f x j ∧ q j = k := fun k => by
    by_cases hk : k < (partI f x).length
    · obtain ⟨j, h1, h2, h3⟩ := hc.from' k hk
      exact ⟨j, fun _ => ⟨h1, h2, h3⟩⟩
    · exact ⟨0, fun h => (hk h).elim⟩
  have hch := Classical.axiomOfChoice hex
  obtain ⟨t, ht⟩ := hch
  have hl := canon_last hu hx hc
  have h3 : ∀ j, j < f.length → Reached f x j → t (q j) = j := fun j hj hn => by
    have := ht (q j) (hc.placed hj hn)
    exact hinj _ _ this.2.1 hn this.2.2
  refine ⟨q, t, hc, ht, h3, ?_⟩
  rw [show (partI f x).length - 1 = q x by omega]
  exact h3 x hx .root

theorem movd_two (p q : Nat → Nat) (nd : Nd) : movd p (movd q nd) = movd (fun x => p (q x)) nd := by
  unfold movd
  simp only [sortd_map_sortd, List.map_map, Function.comp_def]

/-- two parts of a game side by side, in order -/
theorem pair_canon {f : List Nd} (hf : Struct f) (hr : Rising f (bOf f)) {x y : Nat} (hxy : x < y) (hy : y < f.length) :
    ∃ (out : List Nd) (pl : Nat → Nat), Canon (partI f x ++ shD (partI f x).length (partI f y)) (bOf (partI f x ++ shD (partI f x).length (partI f y))) (fun _ => True) out pl ∧ pl ((partI f x).length - 1) < pl ((partI f x).length + (partI f y).length - 1) := by
  have hu := hf.under
  have hb := births_bOf f hu
  have hx : x < f.length := by omega
  obtain ⟨qA, tA, cA, hA, iA, topA⟩ := part_from hf hr hx
  obtain ⟨qB, tB, cB, hB, iB, topB⟩ := part_from hf hr hy
  have hsA : Shut f (Reached f x) := fun k nd hk h z hz => .opt h hk hz
  have hsB : Shut f (Reached f y) := fun k nd hk h z hz => .opt h hk hz
  have sA := Canon.struct hb hsA hu cA
  have sB := Canon.struct hb hsB hu cB
  have lA := canon_last hu hx cA
  have lB := canon_last hu hy cB
  have nA := fun i => reachF_is f hu x hx i
  have nB := fun i => reachF_is f hu y hy i
  obtain ⟨pl, hc, hm⟩ := cut_mono hf hr (fun k => (reachF f x).getD k false || (reachF f y).getD k false) (fun k nd hk h z hz => by
    simp only [Bool.or_eq_true, nA, nB] at h ⊢
    exact h.imp (fun h => .opt h hk hz) (fun h => .opt h hk hz)) y hy (fun k h => by
    simp only [Bool.or_eq_true, nA, nB] at h
    rcases h with h | h
    · have := h.le hu; omega
    · exact h.le hu)
  have nA1 : ∀ k, Reached f x k → ((reachF f x).getD k false || (reachF f y).getD k false) = true := fun k h => by simp only [Bool.or_eq_true, nA, nB]; exact Or.inl h
  have nB1 : ∀ k, Reached f y k → ((reachF f x).getD k false || (reachF f y).getD k false) = true := fun k h => by simp only [Bool.or_eq_true, nA, nB]; exact Or.inr h
  generalize hAe : partI f x = A at *
  generalize hBe : partI f y = B at *
  generalize hout : (partN f (fun k => (reachF f x).getD k false || (reachF f y).getD k false) y (y + 1)).2 = out at *
  have hlP : (A ++ shD A.length B).length = A.length + B.length := by rw [List.length_append, shD_len]
  -- where a node of the pile stood in the game
  have hT : ∀ k, k < A.length + B.length → ∃ s, s < f.length ∧ ((reachF f x).getD s false || (reachF f y).getD s false) = true ∧ (if k < A.length then pl (tA k) else pl (tB (k - A.length))) = pl s ∧ bOf (A ++ shD A.length B) k = bOf f s := fun k hk => by
    by_cases hlt : k < A.length
    · obtain ⟨h1, h2, h3⟩ := hA k hlt
      refine ⟨tA k, h1, nA1 _ h2, by rw [if_pos hlt], ?_⟩
      rw [bOf_preL _ _ _ hlt]
      have := Canon.births hb hsA hu cA (births_bOf A sA.under) (tA k) h1 h2
      rw [h3] at this
      exact this
    · obtain ⟨h1, h2, h3⟩ := hB (k - A.length) (by omega)
      refine ⟨tB (k - A.length), h1, nB1 _ h2, by rw [if_neg hlt], ?_⟩
      have e := bOf_sh A sA.under sB.under (k - A.length) (by omega)
      rw [show A.length + (k - A.length) = k by omega] at e
      rw [e]
      have := Canon.births hb hsB hu cB (births_bOf B sB.under) (tB (k - A.length)) h1 h2
      rw [h3] at this
      exact this
  refine ⟨out, fun k => if k < A.length then pl (tA k) else pl (tB (k - A.length)), ⟨fun k nd hk _ => ?_, fun i hi => ?_, fun k j hk hj _ _ hbb => ?_, fun k j u v hk hj _ _ hbb h1 h2 hlt => ?_, fun k j hk hj _ _ he => ?_⟩, ?_⟩
  · have hkl := get_lt hk
    rw [hlP] at hkl
    by_cases hlt : k < A.length
    · rw [List.getElem?_append_left hlt] at hk
      obtain ⟨h1, h2, h3⟩ := hA k hlt
      obtain ⟨n0, hn0⟩ := lt_get h1
      have e := cA.node (tA k) n0 hn0 h2
      rw [h3, hk] at e
      injection e with e
      subst e
      rw [if_pos hlt, hc.node (tA k) n0 hn0 (nA1 _ h2), movd_two]
      refine congrArg some (movd_congr _ _ _ fun z hz => ?_)
      have hz1 := hu (tA k) n0 hn0 z hz
      have hz2 : Reached f x z := .opt h2 hn0 hz
      have := cA.placed (k := z) (by omega) hz2
      rw [if_pos this, iA z (by omega) hz2]
    · rw [List.getElem?_append_right (by omega)] at hk
      obtain ⟨m0, hm0, rfl⟩ := shD_get hk
      obtain ⟨h1, h2, h3⟩ := hB (k - A.length) (by omega)
      obtain ⟨n0, hn0⟩ := lt_get h1
      have e := cB.node (tB (k - A.length)) n0 hn0 h2
      rw [h3, hm0] at e
      injection e with e
      subst e
      rw [if_neg hlt, hc.node (tB (k - A.length)) n0 hn0 (nB1 _ h2)]
      have key : movd (fun k => if k < A.length then pl (tA k) else pl (tB (k - A.length))) ((movd qB n0).1.map (· + A.length), (movd qB n0).2.map (· + A.length)) = movd (fun z => pl (tB z)) (movd qB n0) := by
        unfold movd
        simp only [List.map_map, Function.comp_def]
        have hg : ∀ z, (if z + A.length < A.length then pl (tA (z + A.length)) else pl (tB (z + A.length - A.length))) = pl (tB z) := fun z => by rw [if_neg (by omega), Nat.add_sub_cancel]
        simp only [hg]
      rw [key, movd_two]
      refine congrArg some (movd_congr _ _ _ fun z hz => ?_)
      have hz1 := hu (tB (k - A.length)) n0 hn0 z hz
      have hz2 : Reached f y z := .opt h2 hn0 hz
      rw [iB z (by omega) hz2]
  · obtain ⟨s, h1, h2, h3⟩ := hc.from' i hi
    simp only [Bool.or_eq_true, nA, nB] at h2
    rcases h2 with h2 | h2
    · have hp := cA.placed h1 h2
      exact ⟨qA s, by omega, trivial, by rw [if_pos hp, iA s h1 h2]; exact h3⟩
    · have hp := cB.placed h1 h2
      exact ⟨A.length + qB s, by omega, trivial, by rw [if_neg (by omega), show A.length + qB s - A.length = qB s by omega, iB s h1 h2]; exact h3⟩
  · obtain ⟨s, s1, s2, s3, s4⟩ := hT k (by omega)
    obtain ⟨r, r1, r2, r3, r4⟩ := hT j (by omega)
    rw [s4, r4] at hbb
    show (if k < A.length then _ else _) < (if j < A.length then _ else _)
    rw [s3, r3]
    exact hc.born s r s1 r1 s2 r2 hbb
  · obtain ⟨s, s1, s2, s3, s4⟩ := hT k (by omega)
    obtain ⟨r, r1, r2, r3, r4⟩ := hT j (by omega)
    rw [s4, r4] at hbb
    simp only [s3] at h1
    simp only [r3] at h2
    show (if k < A.length then _ else _) < (if j < A.length then _ else _)
    rw [s3, r3]
    exact hc.ahead s r u v s1 r1 s2 r2 hbb h1 h2 hlt
  · obtain ⟨s, s1, s2, s3, s4⟩ := hT k (by omega)
    obtain ⟨r, r1, r2, r3, r4⟩ := hT j (by omega)
    simp only [s3, r3] at he
    show (if k < A.length then _ else _) = (if j < A.length then _ else _)
    rw [s3, r3]
    exact hc.once s r s1 r1 s2 r2 he
  · show (if A.length - 1 < A.length then _ else _) < (if A.length + B.length - 1 < A.length then _ else _)
    rw [if_pos (by omega), if_neg (by omega), show A.length + B.length - 1 - A.length = B.length - 1 by omega, topA, topB]
    exact hm x y hxy (nA1 _ .root) (nB1 _ .root)

/-- each part is ahead of the later ones -/
theorem parts_ahead {f : List Nz} (h : goodB f = true) {x y : Nat} (hxy : x < y) (hy : y < f.length) : lessV ((partI (f.map downN) x).map upN) ((partI (f.map downN) y).map upN) = true := by
  obtain ⟨h1, h2, h3, h4⟩ := (goodB_iff f).1 h
  have hx : x < f.length := by omega
  have gx := (good_part h hx).1
  have gy := (good_part h hy).1
  have fx := good_fit gx
  have fy := good_fit gy
  have ox := good_ord gx
  have oy := good_ord gy
  unfold lessV
  rw [gx, gy, Bool.and_self, Bool.true_and]
  rw [down_up] at fx fy ox oy ⊢
  rw [down_up]
  obtain ⟨out, pl, hc, hlt⟩ := pair_canon h2.up.2 h3.rising (x := x) hxy (by simpa using hy)
  rw [less_is fx fy ox oy hc]
  exact decide_eq_true hlt
end

section
set_option linter.unusedVariables false
set_option linter.unusedSimpArgs false

theorem part_born {f : List Nz} (h : goodB f = true) {x : Nat} (hx : x < f.length) : bornV ((partI (f.map downN) x).map upN) = bOf (f.map downN) x := by
  obtain ⟨h1, h2, h3, h4⟩ := (goodB_iff f).1 h
  have hs := h2.up.2
  have hx' : x < (f.map downN).length := by simpa using hx
  obtain ⟨q, hc, _⟩ := part_mono hs h3.rising hx'
  have hu := hs.under
  have hb := births_bOf _ hu
  have hsh : Shut (f.map downN) (Reached (f.map downN) x) := fun k nd hk h z hz => .opt h hk hz
  have hst := Canon.struct hb hsh hu hc
  have hl := canon_last hu hx' hc
  have := Canon.births hb hsh hu hc (births_bOf _ hst.under) x hx' .root
  unfold bornV
  rw [(good_part h hx).1, down_up, List.length_map]
  rw [show (partI (f.map downN) x).length - 1 = q x by omega]
  simpa using this

theorem part_top {f : List Nz} (h : goodB f = true) : (partI (f.map downN) (f.length - 1)).map upN = f := by
  obtain ⟨h1, h2, h3, h4⟩ := (goodB_iff f).1 h
  have hs := h2.up.2
  have h0 : 0 < (f.map downN).length := by simpa using h1.1
  have := part_back (q := fun x => x) hs h3 h4 h0 hs h3 (fun k nd hk => by rw [movd_id hs hk]; exact hk)
  rw [List.length_map] at this
  rw [this]
  exact h2.up.1

/-- the latest birth so far, one less -/
def mostK (b : Nat → Nat) (L : List Nat) (k : Nat) : Int := (((L.take k).foldl (fun m x => max m (b x + 1)) 0 : Nat) : Int) - 1

theorem mostK_zero (b : Nat → Nat) (L : List Nat) : mostK b L 0 = -1 := by unfold mostK; simp

theorem mostK_succ (b : Nat → Nat) (L : List Nat) {k x : Nat} (hx : L[k]? = some x) : mostK b L (k + 1) = if mostK b L k < (b x : Int) then (b x : Int) else mostK b L k := by
  unfold mostK
  rw [List.take_add_one, hx]
  simp only [Option.toList_some, List.foldl_append, List.foldl_cons, List.foldl_nil]
  generalize (L.take k).foldl (fun m x => max m (b x + 1)) 0 = m
  by_cases h : (m : Int) - 1 < (b x : Int)
  · rw [if_pos h, Nat.max_eq_right (by omega)]; omega
  · rw [if_neg h, Nat.max_eq_left (by omega)]

theorem born_most {f : List Nz} (h : goodB f = true) : (bornV f : Int) = mostK (bOf (f.map downN)) ((lastN f).1 ++ (lastN f).2) ((lastN f).1 ++ (lastN f).2).length + 1 := by
  obtain ⟨h1, h2, h3, h4⟩ := (goodB_iff f).1 h
  have hb := births_bOf _ h2.up.2.under
  have e := hb (f.length - 1) (lastN f) (lastN_at h1.1)
  have hv : bornV f = bOf (f.map downN) (f.length - 1) := by unfold bornV; rw [h]; simp
  rw [hv, e]
  unfold mostK lastOf
  rw [List.take_length]
  omega

/-- all options, Left's ahead -/
theorem opts_all {f : List Nz} (h : goodB f = true) : optV f true ++ optV f false = ((lastN f).1 ++ (lastN f).2).map (fun x => (partI (f.map downN) x).map upN) := by
  unfold optV partsF
  rw [h, List.map_append]
  rfl

theorem opts_at {f : List Nz} (h : goodB f = true) {k : Nat} {g : List Nz} (hg : (optV f true ++ optV f false)[k]? = some g) : ∃ x, ((lastN f).1 ++ (lastN f).2)[k]? = some x ∧ goodB g = true ∧ bornV g = bOf (f.map downN) x := by
  rw [opts_all h, List.getElem?_map] at hg
  cases hx : ((lastN f).1 ++ (lastN f).2)[k]? with
  | none => rw [hx] at hg; cases hg
  | some x =>
    rw [hx] at hg
    injection hg with hg
    subst hg
    have hlt := lastN_lt h x (List.mem_append.1 (List.mem_of_getElem? hx))
    exact ⟨x, rfl, (good_part h hlt).1, part_born h hlt⟩
end
end

end Go.Proofs.Ytabfdaofikccmaa
