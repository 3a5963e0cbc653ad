/- laws.vInts of two lists that are alike. -/
import Derived.Test.YtabfdaofikccmaaFmLaw
import Derived.Test.YtabfdaofikccmaaFmOwn
import Derived.Test.YtabfdaofikccmaaDrAll
namespace Go.Proofs.Ytabfdaofikccmaa
section
open Go.RowKit
set_option linter.unusedVariables false
set_option linter.unusedSimpArgs false

set_option maxHeartbeats 400000 in
theorem vInts_same (v v' : Value) (l : List Int) (w : World) (lo hi lo' hi' : Nat) (h : IntsZ w lo hi v l) (h' : IntsZ w lo' hi' v' l) :
    Calls Try.prog 16 #[v, v'] w fun e w' => e = .returned (.bool true) ∧ ∃ m, w' = w.drewN m := by
  obtain ⟨ao, c, rfl, hl, h3⟩ := h
  obtain ⟨ao', c', rfl, _, h3'⟩ := h'
  have H := Lib.hid h3
  have H' := Lib.hid h3'
  clear h3 h3'
  go_enter Try.func16, Try.ntmps16
  go_wp2
  go_loopw [5] (fun i wr => ∃ k : Nat, k ≤ l.length ∧ i = .int .i64 k ∧ ∃ m, wr = w.drewN m) (fun i _ => l.length - (intOf i).toNat)
  case atStart => exact ⟨0, Nat.zero_le _, rfl, 0, rfl⟩
  case round =>
    obtain ⟨k, hk, rfl, m, rfl⟩ := hrel
    by_cases hlt : k < l.length
    · obtain ⟨x, hx⟩ : ∃ x, l[k]? = some x := ⟨l[k], List.getElem?_eq_getElem hlt⟩
      obtain ⟨b, off, rfl, _, _, c1⟩ := H.out k x hx
      obtain ⟨b', off', rfl, _, _, c2⟩ := H'.out k x hx
      clear hx
      have b0 : (0 : Int) ≤ k := by omega
      have b1 : (k : Int) < l.length := by omega
      go_wp2
      go_quiet (fail)
      go_wp2
      go_roundw
      case rel => exact ⟨k + 1, by omega, by go_num, _, rfl⟩
      case measure => simp [intOf]; omega
    · go_wp2
      go_ret
      exact ⟨rfl, _, rfl⟩
end

section
open Go.RowKit
set_option linter.unusedVariables false
set_option linter.unusedSimpArgs false

theorem keepV {w w' : World} {b : Nat} {v : Value} (h : w.cell? ⟨b, 0, none⟩ = some v) (hb : Below w.heap.size w w') : w'.cell? ⟨b, 0, none⟩ = some v := (bcell hb _ _ (block_of_cell h)).trans h

/-- six cells at hand, from a world on -/
def SixV (wr : World) (p q b o b' o' : Nat) (v v' v1 v2 v1' v2' : Value) (w' : World) : Prop :=
  w'.cell? ⟨p, 0, none⟩ = some v ∧ w'.cell? ⟨q, 0, none⟩ = some v' ∧ w'.cell? ⟨b, o, none⟩ = some v1 ∧ w'.cell? ⟨b, o + 1, none⟩ = some v2 ∧ w'.cell? ⟨b', o', none⟩ = some v1' ∧ w'.cell? ⟨b', o' + 1, none⟩ = some v2' ∧ Below wr.heap.size wr w'

theorem sixV_next {wr W w1 : World} {p q b o b' o' : Nat} {v v' v1 v2 v1' v2' : Value} (lp : p < wr.heap.size) (lq : q < wr.heap.size) (lb : b < wr.heap.size) (lb' : b' < wr.heap.size) (hb : Below W.heap.size W w1) (h : SixV wr p q b o b' o' v v' v1 v2 v1' v2' W) : SixV wr p q b o b' o' v v' v1 v2 v1' v2' w1 := by
  obtain ⟨h1, h2, h3, h4, h5, h6, h7⟩ := h
  have hz := h7.size
  exact ⟨(bcell hb p _ (by omega)).trans h1, (bcell hb q _ (by omega)).trans h2, (bcell hb b _ (by omega)).trans h3, (bcell hb b _ (by omega)).trans h4, (bcell hb b' _ (by omega)).trans h5, (bcell hb b' _ (by omega)).trans h6, h7.trans (hb.mono hz)⟩

set_option maxRecDepth 100000 in
set_option maxHeartbeats 8000000 in
theorem vSame_same (v v' : Value) (f : List Nz) (w : World) (lo hi lo' hi' : Nat) (hh : hi ≤ w.heap.size) (hh' : hi' ≤ w.heap.size) (h : NodesZ w lo hi v f) (h' : NodesZ w lo' hi' v' f) :
    Calls Try.prog 12 #[.agg #[v], .agg #[v']] w fun e w' => e = .returned (.bool true) ∧ Below w.heap.size w w' := by
  have b0 : Below w.heap.size w ((w.alloc (.cells #[v] 28)).alloc (.cells #[v'] 28)) := ((Below.refl _ _).alloc (Nat.le_refl _) _).alloc (by simp) _
  have k1 : ((w.alloc (.cells #[v] 28)).alloc (.cells #[v'] 28)).cell? ⟨w.heap.size, 0, none⟩ = some v := by go_simp
  have k2 : ((w.alloc (.cells #[v] 28)).alloc (.cells #[v'] 28)).cell? ⟨w.heap.size + 1, 0, none⟩ = some v' := by go_simp
  have z0 : ((w.alloc (.cells #[v] 28)).alloc (.cells #[v'] 28)).heap.size = w.heap.size + 2 := by simp
  have H := Lib.hid (h.below b0 hh)
  have H' := Lib.hid (h'.below b0 hh')
  have B0 := Lib.hid b0
  obtain ⟨ao, c, rfl, hl, _⟩ := h
  obtain ⟨ao', c', rfl, _, _⟩ := h'
  clear b0
  go_enter Try.func12, Try.ntmps12
  go_upto_region 1 with fail
  generalize ((w.alloc (.cells #[.slice ao f.length c] 28)).alloc (.cells #[.slice ao' f.length c'] 28)) = w0 at k1 k2 z0 H H' B0 ⊢
  have HK := Lib.hid fun (W : World) (hW : Below w0.heap.size w0 W) => And.intro (keepV k1 hW) (keepV k2 hW)
  go_wp2
  go_loopw [5] (fun i wr => ∃ k : Nat, k ≤ f.length ∧ i = .int .i64 k ∧ Hid (Below w0.heap.size w0 wr)) (fun i _ => f.length - (intOf i).toNat)
  case atStart => exact ⟨0, Nat.zero_le _, rfl, Lib.hid (Below.refl _ _)⟩
  case round =>
    obtain ⟨k, hk, rfl, hb⟩ := hrel
    clear k1 k2
    obtain ⟨k1, k2⟩ := HK.out _ hb.out
    have hbl := hb.out.size
    by_cases hlt : k < f.length
    · obtain ⟨nd, hx⟩ : ∃ x, f[k]? = some x := ⟨f[k], List.getElem?_eq_getElem hlt⟩
      obtain ⟨ao1, c1, e1, _, hn⟩ := H.out.below hb.out (by omega)
      obtain ⟨b, off, v1, v2, rfl, _, _, p1, p2, i1, i2⟩ := hn k nd hx
      injection e1 with e1 q1 q2
      obtain rfl := e1
      clear q1 q2
      obtain ⟨ao2, c2, e2, _, hn2⟩ := H'.out.below hb.out (by omega)
      obtain ⟨b', off', v1', v2', rfl, _, _, p1', p2', i1', i2'⟩ := hn2 k nd hx
      injection e2 with e2 q1 q2
      obtain rfl := e2
      clear q1 q2
      clear hn hn2 hx H H'
      have lb : b < wr.heap.size := block_of_cell p1
      have lb' : b' < wr.heap.size := block_of_cell p1'
      have lp : w.heap.size < wr.heap.size := by omega
      have lq : w.heap.size + 1 < wr.heap.size := by omega
      have C1 := Lib.hid fun (W : World) (hW : Below wr.heap.size wr W) => (vInts_same v1 v1' nd.1 W lo hi lo' hi' (i1.below hW (by omega)) (i1'.below hW (by omega))).mono (fun _ w' (h : _ ∧ ∃ m, w' = W.drewN m) => show _ ∧ Below W.heap.size W w' from ⟨h.1, by obtain ⟨_, m, rfl⟩ := h; exact below_drewN (Below.refl _ _) m⟩)
      have C2 := Lib.hid fun (W : World) (hW : Below wr.heap.size wr W) => (vInts_same v2 v2' nd.2 W lo hi lo' hi' (i2.below hW (by omega)) (i2'.below hW (by omega))).mono (fun _ w' (h : _ ∧ ∃ m, w' = W.drewN m) => show _ ∧ Below W.heap.size W w' from ⟨h.1, by obtain ⟨_, m, rfl⟩ := h; exact below_drewN (Below.refl _ _) m⟩)
      clear i1 i2 i1' i2'
      have b0 : (0 : Int) ≤ k := by omega
      have b1 : (k : Int) < f.length := by omega
      have HC := Lib.hid fun (W : World) (hW : Below wr.heap.size wr W) => show (fun w' : World => w'.cell? ⟨w.heap.size, 0, none⟩ = some (.slice (some ⟨b, off, none⟩) f.length c) ∧ w'.cell? ⟨w.heap.size + 1, 0, none⟩ = some (.slice (some ⟨b', off', none⟩) f.length c') ∧ w'.cell? ⟨b, off + k * 2, none⟩ = some v1 ∧ w'.cell? ⟨b, off + k * 2 + 1, none⟩ = some v2 ∧ w'.cell? ⟨b', off' + k * 2, none⟩ = some v1' ∧ w'.cell? ⟨b', off' + k * 2 + 1, none⟩ = some v2') W from ⟨(bcell hW _ _ lp).trans k1, (bcell hW _ _ lq).trans k2, (bcell hW _ _ lb).trans p1, (bcell hW _ _ lb).trans p2, (bcell hW _ _ lb').trans p1', (bcell hW _ _ lb').trans p2'⟩
      have hbd : Below wr.heap.size wr wr.drew := below_drewN (Below.refl _ _) 1
      have hS0 := HC.out _ hbd
      clear p1 p2 p1' p2' HK B0
      go_wp2
      refine wp_region_held_drew (S := (fun w' : World => w'.cell? ⟨w.heap.size, 0, none⟩ = some (.slice (some ⟨b, off, none⟩) f.length c) ∧ w'.cell? ⟨w.heap.size + 1, 0, none⟩ = some (.slice (some ⟨b', off', none⟩) f.length c') ∧ w'.cell? ⟨b, off + k * 2, none⟩ = some v1 ∧ w'.cell? ⟨b, off + k * 2 + 1, none⟩ = some v2 ∧ w'.cell? ⟨b', off' + k * 2, none⟩ = some v1' ∧ w'.cell? ⟨b', off' + k * 2 + 1, none⟩ = some v2')) (by kernel_rfl) hS0 (fun hHeld => ?_)
      refine wpAnyH_take (i := 0) (v := ?_) rfl (by kernel_rfl) (by kernel_rfl) (by kernel_rfl) (fun _ _ _ h => h) (Or.inl ⟨by rfl, ?_⟩) hHeld ?_
      rotate_left
      · intro W hW
        obtain ⟨z1, z2, z3, z4, z5, z6⟩ := hW
        first | (go_simp; done) | (go_simp; with_reducible rfl)
      try simp only [List.getElem_toArray, List.getElem_cons_succ, List.getElem_cons_zero, Act.put, List.setIfInBounds_toArray, List.set_cons_zero, List.set_cons_succ]
      refine wpAnyH_take (i := 1) (v := ?_) rfl (by kernel_rfl) (by kernel_rfl) (by kernel_rfl) (fun _ _ _ h => h) (Or.inl ⟨by rfl, ?_⟩) hHeld ?_
      rotate_left
      · intro W hW
        obtain ⟨z1, z2, z3, z4, z5, z6⟩ := hW
        first | (go_simp; done) | (go_simp; with_reducible rfl)
      try simp only [List.getElem_toArray, List.getElem_cons_succ, List.getElem_cons_zero, Act.put, List.setIfInBounds_toArray, List.set_cons_zero, List.set_cons_succ]
      refine wpAnyH_take (i := 2) (v := ?_) rfl (by kernel_rfl) (by kernel_rfl) (by kernel_rfl) (fun _ _ _ h => h) (Or.inl ⟨by rfl, ?_⟩) hHeld ?_
      rotate_left
      · intro W hW
        obtain ⟨z1, z2, z3, z4, z5, z6⟩ := hW
        first | (go_simp; done) | (go_simp; with_reducible rfl)
      try simp only [List.getElem_toArray, List.getElem_cons_succ, List.getElem_cons_zero, Act.put, List.setIfInBounds_toArray, List.set_cons_zero, List.set_cons_succ]
      refine wpAnyH_take (i := 3) (v := ?_) rfl (by kernel_rfl) (by kernel_rfl) (by kernel_rfl) (fun _ _ _ h => h) (Or.inl ⟨by rfl, ?_⟩) hHeld ?_
      rotate_left
      · intro W hW
        obtain ⟨z1, z2, z3, z4, z5, z6⟩ := hW
        first | (go_simp; done) | (go_simp; with_reducible rfl)
      try simp only [List.getElem_toArray, List.getElem_cons_succ, List.getElem_cons_zero, Act.put, List.setIfInBounds_toArray, List.set_cons_zero, List.set_cons_succ]
      refine wpAnyH_take (i := 4) (v := ?_) rfl (by kernel_rfl) (by kernel_rfl) (by kernel_rfl) (fun _ _ _ h => h) (Or.inl ⟨by rfl, ?_⟩) hHeld ?_
      rotate_left
      · intro W hW
        obtain ⟨z1, z2, z3, z4, z5, z6⟩ := hW
        first | (go_simp; done) | (go_simp; with_reducible rfl)
      try simp only [List.getElem_toArray, List.getElem_cons_succ, List.getElem_cons_zero, Act.put, List.setIfInBounds_toArray, List.set_cons_zero, List.set_cons_succ]
      refine wpAnyH_take (i := 5) (v := ?_) rfl (by kernel_rfl) (by kernel_rfl) (by kernel_rfl) (fun _ _ _ h => h) (Or.inl ⟨by rfl, ?_⟩) hHeld ?_
      rotate_left
      · intro W hW
        obtain ⟨z1, z2, z3, z4, z5, z6⟩ := hW
        first | (go_simp; done) | (go_simp; with_reducible rfl)
      try simp only [List.getElem_toArray, List.getElem_cons_succ, List.getElem_cons_zero, Act.put, List.setIfInBounds_toArray, List.set_cons_zero, List.set_cons_succ]
      refine wpAnyH_take (i := 6) (v := ?_) rfl (by kernel_rfl) (by kernel_rfl) (by kernel_rfl) (fun _ _ _ h => h) (Or.inl ⟨by rfl, ?_⟩) hHeld ?_
      rotate_left
      · intro W hW
        obtain ⟨z1, z2, z3, z4, z5, z6⟩ := hW
        first | (go_simp; done) | (go_simp; with_reducible rfl)
      try simp only [List.getElem_toArray, List.getElem_cons_succ, List.getElem_cons_zero, Act.put, List.setIfInBounds_toArray, List.set_cons_zero, List.set_cons_succ]
      refine wpAnyH_take (i := 7) (v := ?_) rfl (by kernel_rfl) (by kernel_rfl) (by kernel_rfl) (fun _ _ _ h => h) (Or.inl ⟨by rfl, ?_⟩) hHeld ?_
      rotate_left
      · intro W hW
        obtain ⟨z1, z2, z3, z4, z5, z6⟩ := hW
        first | (go_simp; done) | (go_simp; with_reducible rfl)
      try simp only [List.getElem_toArray, List.getElem_cons_succ, List.getElem_cons_zero, Act.put, List.setIfInBounds_toArray, List.set_cons_zero, List.set_cons_succ]
      refine wpAnyH_take (i := 8) (v := ?_) rfl (by kernel_rfl) (by kernel_rfl) (by kernel_rfl) (fun _ _ _ h => h) (Or.inl ⟨by rfl, ?_⟩) hHeld ?_
      rotate_left
      · intro W hW
        obtain ⟨z1, z2, z3, z4, z5, z6⟩ := hW
        first | (go_simp; done) | (go_simp; with_reducible rfl)
      try simp only [List.getElem_toArray, List.getElem_cons_succ, List.getElem_cons_zero, Act.put, List.setIfInBounds_toArray, List.set_cons_zero, List.set_cons_succ]
      refine wpAnyH_take (i := 9) (v := ?_) rfl (by kernel_rfl) (by kernel_rfl) (by kernel_rfl) (fun _ _ _ h => h) (Or.inl ⟨by rfl, ?_⟩) hHeld ?_
      rotate_left
      · intro W hW
        obtain ⟨z1, z2, z3, z4, z5, z6⟩ := hW
        first | (go_simp; done) | (go_simp; with_reducible rfl)
      try simp only [List.getElem_toArray, List.getElem_cons_succ, List.getElem_cons_zero, Act.put, List.setIfInBounds_toArray, List.set_cons_zero, List.set_cons_succ]
      refine wpAnyH_take (i := 10) (v := ?_) rfl (by kernel_rfl) (by kernel_rfl) (by kernel_rfl) (fun _ _ _ h => h) (Or.inl ⟨by rfl, ?_⟩) hHeld ?_
      rotate_left
      · intro W hW
        obtain ⟨z1, z2, z3, z4, z5, z6⟩ := hW
        first | (go_simp; done) | (go_simp; with_reducible rfl)
      try simp only [List.getElem_toArray, List.getElem_cons_succ, List.getElem_cons_zero, Act.put, List.setIfInBounds_toArray, List.set_cons_zero, List.set_cons_succ]
      refine wpAnyH_take (i := 11) (v := ?_) rfl (by kernel_rfl) (by kernel_rfl) (by kernel_rfl) (fun _ _ _ h => h) (Or.inl ⟨by rfl, ?_⟩) hHeld ?_
      rotate_left
      · intro W hW
        obtain ⟨z1, z2, z3, z4, z5, z6⟩ := hW
        first | (go_simp; done) | (go_simp; with_reducible rfl)
      try simp only [List.getElem_toArray, List.getElem_cons_succ, List.getElem_cons_zero, Act.put, List.setIfInBounds_toArray, List.set_cons_zero, List.set_cons_succ]
      refine wpAnyH_ready (rs := [12]) (by kernel_rfl) (by simp) ?_
      refine AllReadyH.cons rfl (fun K hK => ?_) AllReadyH.nil
      go_simp
      go_at_call 16
      refine (C1.out _ hbd).mono ?_
      rintro e wa ⟨rfl, ha⟩
      have hba : Below wr.heap.size wr wa := hbd.trans (ha.mono hbd.size)
      go_wp2_with fail
      refine hK.out _ _ (HC.out _ hba) (fun hH2 => ?_)
      clear hK K
      try simp only [List.getElem_toArray, List.getElem_cons_succ, List.getElem_cons_zero, Act.put, List.setIfInBounds_toArray, List.set_cons_zero, List.set_cons_succ]
      refine wpAnyH_take (i := 13) (v := ?_) rfl (by kernel_rfl) (by kernel_rfl) (by kernel_rfl) (fun _ _ _ h => h) (Or.inl ⟨by rfl, ?_⟩) hH2 ?_
      rotate_left
      · intro W hW
        obtain ⟨z1, z2, z3, z4, z5, z6⟩ := hW
        first | (go_simp; done) | (go_simp; with_reducible rfl)
      try simp only [List.getElem_toArray, List.getElem_cons_succ, List.getElem_cons_zero, Act.put, List.setIfInBounds_toArray, List.set_cons_zero, List.set_cons_succ]
      refine wpAnyH_take (i := 14) (v := ?_) rfl (by kernel_rfl) (by kernel_rfl) (by kernel_rfl) (fun _ _ _ h => h) (Or.inl ⟨by rfl, ?_⟩) hH2 ?_
      rotate_left
      · intro W hW
        obtain ⟨z1, z2, z3, z4, z5, z6⟩ := hW
        first | (go_simp; done) | (go_simp; with_reducible rfl)
      try simp only [List.getElem_toArray, List.getElem_cons_succ, List.getElem_cons_zero, Act.put, List.setIfInBounds_toArray, List.set_cons_zero, List.set_cons_succ]
      refine wpAnyH_take (i := 15) (v := ?_) rfl (by kernel_rfl) (by kernel_rfl) (by kernel_rfl) (fun _ _ _ h => h) (Or.inl ⟨by rfl, ?_⟩) hH2 ?_
      rotate_left
      · intro W hW
        obtain ⟨z1, z2, z3, z4, z5, z6⟩ := hW
        first | (go_simp; done) | (go_simp; with_reducible rfl)
      try simp only [List.getElem_toArray, List.getElem_cons_succ, List.getElem_cons_zero, Act.put, List.setIfInBounds_toArray, List.set_cons_zero, List.set_cons_succ]
      refine wpAnyH_take (i := 16) (v := ?_) rfl (by kernel_rfl) (by kernel_rfl) (by kernel_rfl) (fun _ _ _ h => h) (Or.inl ⟨by rfl, ?_⟩) hH2 ?_
      rotate_left
      · intro W hW
        obtain ⟨z1, z2, z3, z4, z5, z6⟩ := hW
        first | (go_simp; done) | (go_simp; with_reducible rfl)
      try simp only [List.getElem_toArray, List.getElem_cons_succ, List.getElem_cons_zero, Act.put, List.setIfInBounds_toArray, List.set_cons_zero, List.set_cons_succ]
      refine wpAnyH_take (i := 17) (v := ?_) rfl (by kernel_rfl) (by kernel_rfl) (by kernel_rfl) (fun _ _ _ h => h) (Or.inl ⟨by rfl, ?_⟩) hH2 ?_
      rotate_left
      · intro W hW
        obtain ⟨z1, z2, z3, z4, z5, z6⟩ := hW
        first | (go_simp; done) | (go_simp; with_reducible rfl)
      try simp only [List.getElem_toArray, List.getElem_cons_succ, List.getElem_cons_zero, Act.put, List.setIfInBounds_toArray, List.set_cons_zero, List.set_cons_succ]
      refine wpAnyH_take (i := 18) (v := ?_) rfl (by kernel_rfl) (by kernel_rfl) (by kernel_rfl) (fun _ _ _ h => h) (Or.inl ⟨by rfl, ?_⟩) hH2 ?_
      rotate_left
      · intro W hW
        obtain ⟨z1, z2, z3, z4, z5, z6⟩ := hW
        first | (go_simp; done) | (go_simp; with_reducible rfl)
      try simp only [List.getElem_toArray, List.getElem_cons_succ, List.getElem_cons_zero, Act.put, List.setIfInBounds_toArray, List.set_cons_zero, List.set_cons_succ]
      refine wpAnyH_take (i := 19) (v := ?_) rfl (by kernel_rfl) (by kernel_rfl) (by kernel_rfl) (fun _ _ _ h => h) (Or.inl ⟨by rfl, ?_⟩) hH2 ?_
      rotate_left
      · intro W hW
        obtain ⟨z1, z2, z3, z4, z5, z6⟩ := hW
        first | (go_simp; done) | (go_simp; with_reducible rfl)
      try simp only [List.getElem_toArray, List.getElem_cons_succ, List.getElem_cons_zero, Act.put, List.setIfInBounds_toArray, List.set_cons_zero, List.set_cons_succ]
      refine wpAnyH_take (i := 20) (v := ?_) rfl (by kernel_rfl) (by kernel_rfl) (by kernel_rfl) (fun _ _ _ h => h) (Or.inl ⟨by rfl, ?_⟩) hH2 ?_
      rotate_left
      · intro W hW
        obtain ⟨z1, z2, z3, z4, z5, z6⟩ := hW
        first | (go_simp; done) | (go_simp; with_reducible rfl)
      try simp only [List.getElem_toArray, List.getElem_cons_succ, List.getElem_cons_zero, Act.put, List.setIfInBounds_toArray, List.set_cons_zero, List.set_cons_succ]
      refine wpAnyH_take (i := 21) (v := ?_) rfl (by kernel_rfl) (by kernel_rfl) (by kernel_rfl) (fun _ _ _ h => h) (Or.inl ⟨by rfl, ?_⟩) hH2 ?_
      rotate_left
      · intro W hW
        obtain ⟨z1, z2, z3, z4, z5, z6⟩ := hW
        first | (go_simp; done) | (go_simp; with_reducible rfl)
      try simp only [List.getElem_toArray, List.getElem_cons_succ, List.getElem_cons_zero, Act.put, List.setIfInBounds_toArray, List.set_cons_zero, List.set_cons_succ]
      refine wpAnyH_take (i := 22) (v := ?_) rfl (by kernel_rfl) (by kernel_rfl) (by kernel_rfl) (fun _ _ _ h => h) (Or.inl ⟨by rfl, ?_⟩) hH2 ?_
      rotate_left
      · intro W hW
        obtain ⟨z1, z2, z3, z4, z5, z6⟩ := hW
        first | (go_simp; done) | (go_simp; with_reducible rfl)
      try simp only [List.getElem_toArray, List.getElem_cons_succ, List.getElem_cons_zero, Act.put, List.setIfInBounds_toArray, List.set_cons_zero, List.set_cons_succ]
      refine wpAnyH_take (i := 23) (v := ?_) rfl (by kernel_rfl) (by kernel_rfl) (by kernel_rfl) (fun _ _ _ h => h) (Or.inl ⟨by rfl, ?_⟩) hH2 ?_
      rotate_left
      · intro W hW
        obtain ⟨z1, z2, z3, z4, z5, z6⟩ := hW
        first | (go_simp; done) | (go_simp; with_reducible rfl)
      try simp only [List.getElem_toArray, List.getElem_cons_succ, List.getElem_cons_zero, Act.put, List.setIfInBounds_toArray, List.set_cons_zero, List.set_cons_succ]
      refine wpAnyH_take (i := 24) (v := ?_) rfl (by kernel_rfl) (by kernel_rfl) (by kernel_rfl) (fun _ _ _ h => h) (Or.inl ⟨by rfl, ?_⟩) hH2 ?_
      rotate_left
      · intro W hW
        obtain ⟨z1, z2, z3, z4, z5, z6⟩ := hW
        first | (go_simp; done) | (go_simp; with_reducible rfl)
      try simp only [List.getElem_toArray, List.getElem_cons_succ, List.getElem_cons_zero, Act.put, List.setIfInBounds_toArray, List.set_cons_zero, List.set_cons_succ]
      refine wpAnyH_take (i := 25) (v := ?_) rfl (by kernel_rfl) (by kernel_rfl) (by kernel_rfl) (fun _ _ _ h => h) (Or.inl ⟨by rfl, ?_⟩) hH2 ?_
      rotate_left
      · intro W hW
        obtain ⟨z1, z2, z3, z4, z5, z6⟩ := hW
        first | (go_simp; done) | (go_simp; with_reducible rfl)
      try simp only [List.getElem_toArray, List.getElem_cons_succ, List.getElem_cons_zero, Act.put, List.setIfInBounds_toArray, List.set_cons_zero, List.set_cons_succ]
      refine wpAnyH_take (i := 26) (v := ?_) rfl (by kernel_rfl) (by kernel_rfl) (by kernel_rfl) (fun _ _ _ h => h) (Or.inl ⟨by rfl, ?_⟩) hH2 ?_
      rotate_left
      · intro W hW
        obtain ⟨z1, z2, z3, z4, z5, z6⟩ := hW
        first | (go_simp; done) | (go_simp; with_reducible rfl)
      try simp only [List.getElem_toArray, List.getElem_cons_succ, List.getElem_cons_zero, Act.put, List.setIfInBounds_toArray, List.set_cons_zero, List.set_cons_succ]
      refine wpAnyH_ready (rs := [27]) (by kernel_rfl) (by simp) ?_
      refine AllReadyH.cons rfl (fun K hK => ?_) AllReadyH.nil
      go_simp
      go_at_call 16
      refine (C2.out _ hba).mono ?_
      rintro e wc ⟨rfl, hc⟩
      have hbc : Below wr.heap.size wr wc := hba.trans (hc.mono hba.size)
      go_wp2_with fail
      refine hK.out _ _ (HC.out _ hbc) (fun hH3 => ?_)
      clear hK K
      try simp only [List.getElem_toArray, List.getElem_cons_succ, List.getElem_cons_zero, Act.put, List.setIfInBounds_toArray, List.set_cons_zero, List.set_cons_succ]
      refine wpAnyH_take (i := 28) (v := ?_) rfl (by kernel_rfl) (by kernel_rfl) (by kernel_rfl) (fun _ _ _ h => h) (Or.inl ⟨by rfl, ?_⟩) hH3 ?_
      rotate_left
      · intro W hW
        obtain ⟨z1, z2, z3, z4, z5, z6⟩ := hW
        first | (go_simp; done) | (go_simp; with_reducible rfl)
      try simp only [List.getElem_toArray, List.getElem_cons_succ, List.getElem_cons_zero, Act.put, List.setIfInBounds_toArray, List.set_cons_zero, List.set_cons_succ]
      refine wpAnyH_take (i := 29) (v := ?_) rfl (by kernel_rfl) (by kernel_rfl) (by kernel_rfl) (fun _ _ _ h => h) (Or.inl ⟨by rfl, ?_⟩) hH3 ?_
      rotate_left
      · intro W hW
        obtain ⟨z1, z2, z3, z4, z5, z6⟩ := hW
        first | (go_simp; done) | (go_simp; with_reducible rfl)
      try simp only [List.getElem_toArray, List.getElem_cons_succ, List.getElem_cons_zero, Act.put, List.setIfInBounds_toArray, List.set_cons_zero, List.set_cons_succ]
      refine wpAnyH_done (by kernel_rfl) ?_ _
      have HBC := Lib.hid (hb.out.trans (hbc.mono hbl))
      clear HC C1 C2 hba hbc ha hc hbd hS0
      go_wp2
      go_roundw
      case rel => exact ⟨k + 1, by omega, by go_num, HBC⟩
      case measure => simp [intOf]; omega
    · go_wp2
      go_ret
      exact ⟨rfl, B0.out.trans (hb.out.mono (by omega))⟩
end

section
open Go.RowKit
set_option linter.unusedVariables false
set_option linter.unusedSimpArgs false

/-- a box that holds a game -/
def BoxF (w : World) (D : Nat) (v : Value) (f : List Nz) : Prop := w.cell? ⟨D, 0, none⟩ = some v ∧ CopyOf w v f

theorem BoxF.step {w w' : World} {D : Nat} {v : Value} {f : List Nz} (h : BoxF w D v f) (hb : Below w.heap.size w w') : BoxF w' D v f := ⟨keepV h.1 hb, h.2.below hb⟩

theorem BoxF.new {w : World} {v : Value} {f : List Nz} (h : CopyOf w v f) (T : TypeId) : BoxF (w.alloc (.cells #[v] T)) w.heap.size v f := ⟨by go_simp, h.below ((Below.refl _ _).alloc (Nat.le_refl _) _)⟩

theorem copyOf_nodes {w : World} {lo : Nat} {v : Value} {f : List Nz} (h : NodesZ w lo w.heap.size v f) : CopyOf w v f := ⟨_, _, Nat.le_refl _, h⟩

theorem below_via {a W b : World} (h : Below a.heap.size a W) (g : Below W.heap.size W b) : Below a.heap.size a b := h.trans (g.mono h.size)

theorem below_new (w : World) (o : Obj) : Below w.heap.size w (w.alloc o) := (Below.refl _ _).alloc (Nat.le_refl _) _

theorem one_box {w : World} {v1 : Value} {f1 : List Nz} (h1 : CopyOf w v1 f1) (T : TypeId) :
    BoxF (w.alloc (.cells #[v1] T)) w.heap.size v1 f1 ∧ Below w.heap.size w (w.alloc (.cells #[v1] T)) := ⟨BoxF.new h1 T, below_new _ _⟩

theorem two_boxes {w : World} {v1 v2 : Value} {f1 f2 : List Nz} (h1 : CopyOf w v1 f1) (h2 : CopyOf w v2 f2) (T : TypeId) :
    BoxF ((w.alloc (.cells #[v1] T)).alloc (.cells #[v2] T)) w.heap.size v1 f1 ∧ BoxF ((w.alloc (.cells #[v1] T)).alloc (.cells #[v2] T)) (w.heap.size + 1) v2 f2 ∧ Below w.heap.size w ((w.alloc (.cells #[v1] T)).alloc (.cells #[v2] T)) := by
  have z : (w.alloc (.cells #[v1] T)).heap.size = w.heap.size + 1 := by simp
  have b := BoxF.new (h2.below (below_new w (.cells #[v1] T))) T
  rw [z] at b
  exact ⟨(BoxF.new h1 T).step (below_new _ _), b, below_via (below_new _ _) (below_new _ _)⟩

theorem three_boxes {w : World} {v1 v2 v3 : Value} {f1 f2 f3 : List Nz} (h1 : CopyOf w v1 f1) (h2 : CopyOf w v2 f2) (h3 : CopyOf w v3 f3) (T : TypeId) :
    BoxF (((w.alloc (.cells #[v1] T)).alloc (.cells #[v2] T)).alloc (.cells #[v3] T)) w.heap.size v1 f1 ∧ BoxF (((w.alloc (.cells #[v1] T)).alloc (.cells #[v2] T)).alloc (.cells #[v3] T)) (w.heap.size + 1) v2 f2 ∧ BoxF (((w.alloc (.cells #[v1] T)).alloc (.cells #[v2] T)).alloc (.cells #[v3] T)) (w.heap.size + 1 + 1) v3 f3 ∧ Below w.heap.size w (((w.alloc (.cells #[v1] T)).alloc (.cells #[v2] T)).alloc (.cells #[v3] T)) := by
  obtain ⟨a1, a2, a3⟩ := two_boxes h1 h2 T
  have z : ((w.alloc (.cells #[v1] T)).alloc (.cells #[v2] T)).heap.size = w.heap.size + 1 + 1 := by simp
  have b := BoxF.new (h3.below a3) T
  rw [z] at b
  exact ⟨a1.step (below_new _ _), a2.step (below_new _ _), b, below_via a3 (below_new _ _)⟩

/-- two boxes that hold the same game -/
theorem vSame_box {w : World} {v v' : Value} {f : List Nz} (h : CopyOf w v f) (h' : CopyOf w v' f) :
    Calls Try.prog 12 #[.agg #[v], .agg #[v']] w fun e w' => e = .returned (.bool true) ∧ Below w.heap.size w w' := by
  obtain ⟨lo, hi, hh, h⟩ := h
  obtain ⟨lo', hi', hh', h'⟩ := h'
  exact vSame_same v v' f w lo hi lo' hi' hh hh' h h'
end

section
open Go.RowKit
set_option linter.unusedVariables false
set_option linter.unusedSimpArgs false

/-- a list of numbers, in any later world -/
def CopyI (w : World) (v : Value) (l : List Int) : Prop := ∃ lo hi, hi ≤ w.heap.size ∧ IntsZ w lo hi v l

theorem CopyI.below {w w' : World} {v : Value} {l : List Int} (h : CopyI w v l) (hb : Below w.heap.size w w') : CopyI w' v l := by
  obtain ⟨lo, hi, hh, hz⟩ := h
  exact ⟨lo, hi, Nat.le_trans hh hb.size, hz.below hb hh⟩

theorem copyI_own {w : World} {base : Nat} {v : Value} {l : List Int} (h : OwnI w base v l) : CopyI w v l := ⟨_, _, Nat.le_refl _, h.ints⟩

theorem CopyI.shape {w : World} {v : Value} {l : List Int} (h : CopyI w v l) : ∃ a c, v = .slice a l.length c := by
  obtain ⟨lo, hi, hh, a, c, e, _⟩ := h
  exact ⟨a, c, e⟩

theorem vInts_copy {w : World} {v v' : Value} {l : List Int} (h : CopyI w v l) (h' : CopyI w v' l) :
    Calls Try.prog 16 #[v, v'] w fun e w' => e = .returned (.bool true) ∧ Below w.heap.size w w' := by
  obtain ⟨lo, hi, hh, h⟩ := h
  obtain ⟨lo', hi', hh', h'⟩ := h'
  refine (vInts_same v v' l w lo hi lo' hi' h h').mono ?_
  rintro e w' ⟨h1, m, rfl⟩
  exact ⟨h1, below_drewN (Below.refl _ _) m⟩

/-- a list of games, in any later world -/
def CopyFs (w : World) (v : Value) (Gs : List (List Nz)) : Prop := ∃ lo hi, hi ≤ w.heap.size ∧ FormsZ w lo hi v Gs

theorem CopyFs.below {w w' : World} {v : Value} {Gs : List (List Nz)} (h : CopyFs w v Gs) (hb : Below w.heap.size w w') : CopyFs w' v Gs := by
  obtain ⟨lo, hi, hh, hz⟩ := h
  exact ⟨lo, hi, Nat.le_trans hh hb.size, hz.below hb hh⟩

/-- a number of the list at hand -/
theorem CopyI.at_ {w : World} {a : Option Addr} {n c : Nat} {l : List Int} (h : CopyI w (.slice a n c) l) {m : Nat} {x : Int} (hx : l[m]? = some x) : ∃ b off, a = some ⟨b, off, none⟩ ∧ w.cell? ⟨b, off + m, none⟩ = some (.int .i64 x) := by
  obtain ⟨lo, hi, hh, a', c', e, _, hz⟩ := h
  injection e with e
  subst e
  obtain ⟨b, off, e2, _, _, h3⟩ := hz m x hx
  exact ⟨b, off, e2, h3⟩

/-- a game of the list at hand -/
theorem CopyFs.at_ {w : World} {a : Option Addr} {n c : Nat} {Gs : List (List Nz)} (h : CopyFs w (.slice a n c) Gs) {m : Nat} {f : List Nz} (hf : Gs[m]? = some f) : ∃ b off vf, a = some ⟨b, off, none⟩ ∧ w.cell? ⟨b, off + m, none⟩ = some vf ∧ CopyOf w vf f := by
  obtain ⟨lo, hi, hh, a', c', e, _, hz⟩ := h
  injection e with e
  subst e
  obtain ⟨b, off, vf, e2, _, _, h3, h4⟩ := hz m f hf
  exact ⟨b, off, vf, e2, h3, lo, hi, hh, h4⟩

theorem CopyI.cap {w : World} {v : Value} {l : List Int} (h : CopyI w v l) : l.length ≤ 9223372036854775807 := by
  obtain ⟨lo, hi, hh, a', c', e, hc, hz⟩ := h
  omega

theorem CopyFs.cap {w : World} {v : Value} {Gs : List (List Nz)} (h : CopyFs w v Gs) : Gs.length ≤ 9223372036854775807 := by
  obtain ⟨lo, hi, hh, a', c', e, hc, hz⟩ := h
  omega
end

end Go.Proofs.Ytabfdaofikccmaa
