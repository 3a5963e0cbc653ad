/- laws.vSame of two forms that are alike. -/
import Derived.Test.YtabfdaofikccmaaVInts
namespace Go.Proofs.Ytabfdaofikccmaa
open Go.RowKit
set_option linter.unusedVariables false
set_option linter.unusedSimpArgs false

theorem keepV {w w' : World} {b : Nat} {v : Value} (h : w.cell? ⟨b, 0, none⟩ = some v) (hb : Below w.heap.size w w') : w'.cell? ⟨b, 0, none⟩ = some v := (bcell hb _ _ (block_of_cell h)).trans h

/-- six cells at hand, from a world on -/
def SixV (wr : World) (p q b o b' o' : Nat) (v v' v1 v2 v1' v2' : Value) (w' : World) : Prop :=
  w'.cell? ⟨p, 0, none⟩ = some v ∧ w'.cell? ⟨q, 0, none⟩ = some v' ∧ w'.cell? ⟨b, o, none⟩ = some v1 ∧ w'.cell? ⟨b, o + 1, none⟩ = some v2 ∧ w'.cell? ⟨b', o', none⟩ = some v1' ∧ w'.cell? ⟨b', o' + 1, none⟩ = some v2' ∧ Below wr.heap.size wr w'

theorem sixV_next {wr W w1 : World} {p q b o b' o' : Nat} {v v' v1 v2 v1' v2' : Value} (lp : p < wr.heap.size) (lq : q < wr.heap.size) (lb : b < wr.heap.size) (lb' : b' < wr.heap.size) (hb : Below W.heap.size W w1) (h : SixV wr p q b o b' o' v v' v1 v2 v1' v2' W) : SixV wr p q b o b' o' v v' v1 v2 v1' v2' w1 := by
  obtain ⟨h1, h2, h3, h4, h5, h6, h7⟩ := h
  have hz := h7.size
  exact ⟨(bcell hb p _ (by omega)).trans h1, (bcell hb q _ (by omega)).trans h2, (bcell hb b _ (by omega)).trans h3, (bcell hb b _ (by omega)).trans h4, (bcell hb b' _ (by omega)).trans h5, (bcell hb b' _ (by omega)).trans h6, h7.trans (hb.mono hz)⟩

set_option maxRecDepth 100000 in
set_option maxHeartbeats 8000000 in
theorem vSame_same (v v' : Value) (f : List Nz) (w : World) (lo hi lo' hi' : Nat) (hh : hi ≤ w.heap.size) (hh' : hi' ≤ w.heap.size) (h : NodesZ w lo hi v f) (h' : NodesZ w lo' hi' v' f) :
    Calls Try.prog 12 #[.agg #[v], .agg #[v']] w fun e w' => e = .returned (.bool true) ∧ Below w.heap.size w w' := by
  have b0 : Below w.heap.size w ((w.alloc (.cells #[v] 28)).alloc (.cells #[v'] 28)) := ((Below.refl _ _).alloc (Nat.le_refl _) _).alloc (by simp) _
  have k1 : ((w.alloc (.cells #[v] 28)).alloc (.cells #[v'] 28)).cell? ⟨w.heap.size, 0, none⟩ = some v := by go_simp
  have k2 : ((w.alloc (.cells #[v] 28)).alloc (.cells #[v'] 28)).cell? ⟨w.heap.size + 1, 0, none⟩ = some v' := by go_simp
  have z0 : ((w.alloc (.cells #[v] 28)).alloc (.cells #[v'] 28)).heap.size = w.heap.size + 2 := by simp
  have H := Lib.hid (h.below b0 hh)
  have H' := Lib.hid (h'.below b0 hh')
  have B0 := Lib.hid b0
  obtain ⟨ao, c, rfl, hl, _⟩ := h
  obtain ⟨ao', c', rfl, _, _⟩ := h'
  clear b0
  go_enter Try.func12, Try.ntmps12
  go_upto_region 1 with fail
  generalize ((w.alloc (.cells #[.slice ao f.length c] 28)).alloc (.cells #[.slice ao' f.length c'] 28)) = w0 at k1 k2 z0 H H' B0 ⊢
  have HK := Lib.hid fun (W : World) (hW : Below w0.heap.size w0 W) => And.intro (keepV k1 hW) (keepV k2 hW)
  go_wp2
  go_loopw [5] (fun i wr => ∃ k : Nat, k ≤ f.length ∧ i = .int .i64 k ∧ Hid (Below w0.heap.size w0 wr)) (fun i _ => f.length - (intOf i).toNat)
  case atStart => exact ⟨0, Nat.zero_le _, rfl, Lib.hid (Below.refl _ _)⟩
  case round =>
    obtain ⟨k, hk, rfl, hb⟩ := hrel
    clear k1 k2
    obtain ⟨k1, k2⟩ := HK.out _ hb.out
    have hbl := hb.out.size
    by_cases hlt : k < f.length
    · obtain ⟨nd, hx⟩ : ∃ x, f[k]? = some x := ⟨f[k], List.getElem?_eq_getElem hlt⟩
      obtain ⟨ao1, c1, e1, _, hn⟩ := H.out.below hb.out (by omega)
      obtain ⟨b, off, v1, v2, rfl, _, _, p1, p2, i1, i2⟩ := hn k nd hx
      injection e1 with e1 q1 q2
      obtain rfl := e1
      clear q1 q2
      obtain ⟨ao2, c2, e2, _, hn2⟩ := H'.out.below hb.out (by omega)
      obtain ⟨b', off', v1', v2', rfl, _, _, p1', p2', i1', i2'⟩ := hn2 k nd hx
      injection e2 with e2 q1 q2
      obtain rfl := e2
      clear q1 q2
      clear hn hn2 hx H H'
      have lb : b < wr.heap.size := block_of_cell p1
      have lb' : b' < wr.heap.size := block_of_cell p1'
      have lp : w.heap.size < wr.heap.size := by omega
      have lq : w.heap.size + 1 < wr.heap.size := by omega
      have C1 := Lib.hid fun (W : World) (hW : Below wr.heap.size wr W) => (vInts_same v1 v1' nd.1 W lo hi lo' hi' (i1.below hW (by omega)) (i1'.below hW (by omega))).mono (fun _ w' (h : _ ∧ ∃ m, w' = W.drewN m) => show _ ∧ Below W.heap.size W w' from ⟨h.1, by obtain ⟨_, m, rfl⟩ := h; exact below_drewN (Below.refl _ _) m⟩)
      have C2 := Lib.hid fun (W : World) (hW : Below wr.heap.size wr W) => (vInts_same v2 v2' nd.2 W lo hi lo' hi' (i2.below hW (by omega)) (i2'.below hW (by omega))).mono (fun _ w' (h : _ ∧ ∃ m, w' = W.drewN m) => show _ ∧ Below W.heap.size W w' from ⟨h.1, by obtain ⟨_, m, rfl⟩ := h; exact below_drewN (Below.refl _ _) m⟩)
      clear i1 i2 i1' i2'
      have b0 : (0 : Int) ≤ k := by omega
      have b1 : (k : Int) < f.length := by omega
      have HC := Lib.hid fun (W : World) (hW : Below wr.heap.size wr W) => show (fun w' : World => w'.cell? ⟨w.heap.size, 0, none⟩ = some (.slice (some ⟨b, off, none⟩) f.length c) ∧ w'.cell? ⟨w.heap.size + 1, 0, none⟩ = some (.slice (some ⟨b', off', none⟩) f.length c') ∧ w'.cell? ⟨b, off + k * 2, none⟩ = some v1 ∧ w'.cell? ⟨b, off + k * 2 + 1, none⟩ = some v2 ∧ w'.cell? ⟨b', off' + k * 2, none⟩ = some v1' ∧ w'.cell? ⟨b', off' + k * 2 + 1, none⟩ = some v2') W from ⟨(bcell hW _ _ lp).trans k1, (bcell hW _ _ lq).trans k2, (bcell hW _ _ lb).trans p1, (bcell hW _ _ lb).trans p2, (bcell hW _ _ lb').trans p1', (bcell hW _ _ lb').trans p2'⟩
      have hbd : Below wr.heap.size wr wr.drew := below_drewN (Below.refl _ _) 1
      have hS0 := HC.out _ hbd
      clear p1 p2 p1' p2' HK B0
      go_wp2
      refine wp_region_held_drew (S := (fun w' : World => w'.cell? ⟨w.heap.size, 0, none⟩ = some (.slice (some ⟨b, off, none⟩) f.length c) ∧ w'.cell? ⟨w.heap.size + 1, 0, none⟩ = some (.slice (some ⟨b', off', none⟩) f.length c') ∧ w'.cell? ⟨b, off + k * 2, none⟩ = some v1 ∧ w'.cell? ⟨b, off + k * 2 + 1, none⟩ = some v2 ∧ w'.cell? ⟨b', off' + k * 2, none⟩ = some v1' ∧ w'.cell? ⟨b', off' + k * 2 + 1, none⟩ = some v2')) (by kernel_rfl) hS0 (fun hHeld => ?_)
      refine wpAnyH_take (i := 0) (v := ?_) rfl (by kernel_rfl) (by kernel_rfl) (by kernel_rfl) (fun _ _ _ h => h) (Or.inl ⟨by rfl, ?_⟩) hHeld ?_
      rotate_left
      · intro W hW
        obtain ⟨z1, z2, z3, z4, z5, z6⟩ := hW
        first | (go_simp; done) | (go_simp; with_reducible rfl)
      try simp only [List.getElem_toArray, List.getElem_cons_succ, List.getElem_cons_zero, Act.put, List.setIfInBounds_toArray, List.set_cons_zero, List.set_cons_succ]
      refine wpAnyH_take (i := 1) (v := ?_) rfl (by kernel_rfl) (by kernel_rfl) (by kernel_rfl) (fun _ _ _ h => h) (Or.inl ⟨by rfl, ?_⟩) hHeld ?_
      rotate_left
      · intro W hW
        obtain ⟨z1, z2, z3, z4, z5, z6⟩ := hW
        first | (go_simp; done) | (go_simp; with_reducible rfl)
      try simp only [List.getElem_toArray, List.getElem_cons_succ, List.getElem_cons_zero, Act.put, List.setIfInBounds_toArray, List.set_cons_zero, List.set_cons_succ]
      refine wpAnyH_take (i := 2) (v := ?_) rfl (by kernel_rfl) (by kernel_rfl) (by kernel_rfl) (fun _ _ _ h => h) (Or.inl ⟨by rfl, ?_⟩) hHeld ?_
      rotate_left
      · intro W hW
        obtain ⟨z1, z2, z3, z4, z5, z6⟩ := hW
        first | (go_simp; done) | (go_simp; with_reducible rfl)
      try simp only [List.getElem_toArray, List.getElem_cons_succ, List.getElem_cons_zero, Act.put, List.setIfInBounds_toArray, List.set_cons_zero, List.set_cons_succ]
      refine wpAnyH_take (i := 3) (v := ?_) rfl (by kernel_rfl) (by kernel_rfl) (by kernel_rfl) (fun _ _ _ h => h) (Or.inl ⟨by rfl, ?_⟩) hHeld ?_
      rotate_left
      · intro W hW
        obtain ⟨z1, z2, z3, z4, z5, z6⟩ := hW
        first | (go_simp; done) | (go_simp; with_reducible rfl)
      try simp only [List.getElem_toArray, List.getElem_cons_succ, List.getElem_cons_zero, Act.put, List.setIfInBounds_toArray, List.set_cons_zero, List.set_cons_succ]
      refine wpAnyH_take (i := 4) (v := ?_) rfl (by kernel_rfl) (by kernel_rfl) (by kernel_rfl) (fun _ _ _ h => h) (Or.inl ⟨by rfl, ?_⟩) hHeld ?_
      rotate_left
      · intro W hW
        obtain ⟨z1, z2, z3, z4, z5, z6⟩ := hW
        first | (go_simp; done) | (go_simp; with_reducible rfl)
      try simp only [List.getElem_toArray, List.getElem_cons_succ, List.getElem_cons_zero, Act.put, List.setIfInBounds_toArray, List.set_cons_zero, List.set_cons_succ]
      refine wpAnyH_take (i := 5) (v := ?_) rfl (by kernel_rfl) (by kernel_rfl) (by kernel_rfl) (fun _ _ _ h => h) (Or.inl ⟨by rfl, ?_⟩) hHeld ?_
      rotate_left
      · intro W hW
        obtain ⟨z1, z2, z3, z4, z5, z6⟩ := hW
        first | (go_simp; done) | (go_simp; with_reducible rfl)
      try simp only [List.getElem_toArray, List.getElem_cons_succ, List.getElem_cons_zero, Act.put, List.setIfInBounds_toArray, List.set_cons_zero, List.set_cons_succ]
      refine wpAnyH_take (i := 6) (v := ?_) rfl (by kernel_rfl) (by kernel_rfl) (by kernel_rfl) (fun _ _ _ h => h) (Or.inl ⟨by rfl, ?_⟩) hHeld ?_
      rotate_left
      · intro W hW
        obtain ⟨z1, z2, z3, z4, z5, z6⟩ := hW
        first | (go_simp; done) | (go_simp; with_reducible rfl)
      try simp only [List.getElem_toArray, List.getElem_cons_succ, List.getElem_cons_zero, Act.put, List.setIfInBounds_toArray, List.set_cons_zero, List.set_cons_succ]
      refine wpAnyH_take (i := 7) (v := ?_) rfl (by kernel_rfl) (by kernel_rfl) (by kernel_rfl) (fun _ _ _ h => h) (Or.inl ⟨by rfl, ?_⟩) hHeld ?_
      rotate_left
      · intro W hW
        obtain ⟨z1, z2, z3, z4, z5, z6⟩ := hW
        first | (go_simp; done) | (go_simp; with_reducible rfl)
      try simp only [List.getElem_toArray, List.getElem_cons_succ, List.getElem_cons_zero, Act.put, List.setIfInBounds_toArray, List.set_cons_zero, List.set_cons_succ]
      refine wpAnyH_take (i := 8) (v := ?_) rfl (by kernel_rfl) (by kernel_rfl) (by kernel_rfl) (fun _ _ _ h => h) (Or.inl ⟨by rfl, ?_⟩) hHeld ?_
      rotate_left
      · intro W hW
        obtain ⟨z1, z2, z3, z4, z5, z6⟩ := hW
        first | (go_simp; done) | (go_simp; with_reducible rfl)
      try simp only [List.getElem_toArray, List.getElem_cons_succ, List.getElem_cons_zero, Act.put, List.setIfInBounds_toArray, List.set_cons_zero, List.set_cons_succ]
      refine wpAnyH_take (i := 9) (v := ?_) rfl (by kernel_rfl) (by kernel_rfl) (by kernel_rfl) (fun _ _ _ h => h) (Or.inl ⟨by rfl, ?_⟩) hHeld ?_
      rotate_left
      · intro W hW
        obtain ⟨z1, z2, z3, z4, z5, z6⟩ := hW
        first | (go_simp; done) | (go_simp; with_reducible rfl)
      try simp only [List.getElem_toArray, List.getElem_cons_succ, List.getElem_cons_zero, Act.put, List.setIfInBounds_toArray, List.set_cons_zero, List.set_cons_succ]
      refine wpAnyH_take (i := 10) (v := ?_) rfl (by kernel_rfl) (by kernel_rfl) (by kernel_rfl) (fun _ _ _ h => h) (Or.inl ⟨by rfl, ?_⟩) hHeld ?_
      rotate_left
      · intro W hW
        obtain ⟨z1, z2, z3, z4, z5, z6⟩ := hW
        first | (go_simp; done) | (go_simp; with_reducible rfl)
      try simp only [List.getElem_toArray, List.getElem_cons_succ, List.getElem_cons_zero, Act.put, List.setIfInBounds_toArray, List.set_cons_zero, List.set_cons_succ]
      refine wpAnyH_take (i := 11) (v := ?_) rfl (by kernel_rfl) (by kernel_rfl) (by kernel_rfl) (fun _ _ _ h => h) (Or.inl ⟨by rfl, ?_⟩) hHeld ?_
      rotate_left
      · intro W hW
        obtain ⟨z1, z2, z3, z4, z5, z6⟩ := hW
        first | (go_simp; done) | (go_simp; with_reducible rfl)
      try simp only [List.getElem_toArray, List.getElem_cons_succ, List.getElem_cons_zero, Act.put, List.setIfInBounds_toArray, List.set_cons_zero, List.set_cons_succ]
      refine wpAnyH_ready (rs := [12]) (by kernel_rfl) (by simp) ?_
      refine AllReadyH.cons rfl (fun K hK => ?_) AllReadyH.nil
      go_simp
      go_at_call 16
      refine (C1.out _ hbd).mono ?_
      rintro e wa ⟨rfl, ha⟩
      have hba : Below wr.heap.size wr wa := hbd.trans (ha.mono hbd.size)
      go_wp2_with fail
      refine hK.out _ _ (HC.out _ hba) (fun hH2 => ?_)
      clear hK K
      try simp only [List.getElem_toArray, List.getElem_cons_succ, List.getElem_cons_zero, Act.put, List.setIfInBounds_toArray, List.set_cons_zero, List.set_cons_succ]
      refine wpAnyH_take (i := 13) (v := ?_) rfl (by kernel_rfl) (by kernel_rfl) (by kernel_rfl) (fun _ _ _ h => h) (Or.inl ⟨by rfl, ?_⟩) hH2 ?_
      rotate_left
      · intro W hW
        obtain ⟨z1, z2, z3, z4, z5, z6⟩ := hW
        first | (go_simp; done) | (go_simp; with_reducible rfl)
      try simp only [List.getElem_toArray, List.getElem_cons_succ, List.getElem_cons_zero, Act.put, List.setIfInBounds_toArray, List.set_cons_zero, List.set_cons_succ]
      refine wpAnyH_take (i := 14) (v := ?_) rfl (by kernel_rfl) (by kernel_rfl) (by kernel_rfl) (fun _ _ _ h => h) (Or.inl ⟨by rfl, ?_⟩) hH2 ?_
      rotate_left
      · intro W hW
        obtain ⟨z1, z2, z3, z4, z5, z6⟩ := hW
        first | (go_simp; done) | (go_simp; with_reducible rfl)
      try simp only [List.getElem_toArray, List.getElem_cons_succ, List.getElem_cons_zero, Act.put, List.setIfInBounds_toArray, List.set_cons_zero, List.set_cons_succ]
      refine wpAnyH_take (i := 15) (v := ?_) rfl (by kernel_rfl) (by kernel_rfl) (by kernel_rfl) (fun _ _ _ h => h) (Or.inl ⟨by rfl, ?_⟩) hH2 ?_
      rotate_left
      · intro W hW
        obtain ⟨z1, z2, z3, z4, z5, z6⟩ := hW
        first | (go_simp; done) | (go_simp; with_reducible rfl)
      try simp only [List.getElem_toArray, List.getElem_cons_succ, List.getElem_cons_zero, Act.put, List.setIfInBounds_toArray, List.set_cons_zero, List.set_cons_succ]
      refine wpAnyH_take (i := 16) (v := ?_) rfl (by kernel_rfl) (by kernel_rfl) (by kernel_rfl) (fun _ _ _ h => h) (Or.inl ⟨by rfl, ?_⟩) hH2 ?_
      rotate_left
      · intro W hW
        obtain ⟨z1, z2, z3, z4, z5, z6⟩ := hW
        first | (go_simp; done) | (go_simp; with_reducible rfl)
      try simp only [List.getElem_toArray, List.getElem_cons_succ, List.getElem_cons_zero, Act.put, List.setIfInBounds_toArray, List.set_cons_zero, List.set_cons_succ]
      refine wpAnyH_take (i := 17) (v := ?_) rfl (by kernel_rfl) (by kernel_rfl) (by kernel_rfl) (fun _ _ _ h => h) (Or.inl ⟨by rfl, ?_⟩) hH2 ?_
      rotate_left
      · intro W hW
        obtain ⟨z1, z2, z3, z4, z5, z6⟩ := hW
        first | (go_simp; done) | (go_simp; with_reducible rfl)
      try simp only [List.getElem_toArray, List.getElem_cons_succ, List.getElem_cons_zero, Act.put, List.setIfInBounds_toArray, List.set_cons_zero, List.set_cons_succ]
      refine wpAnyH_take (i := 18) (v := ?_) rfl (by kernel_rfl) (by kernel_rfl) (by kernel_rfl) (fun _ _ _ h => h) (Or.inl ⟨by rfl, ?_⟩) hH2 ?_
      rotate_left
      · intro W hW
        obtain ⟨z1, z2, z3, z4, z5, z6⟩ := hW
        first | (go_simp; done) | (go_simp; with_reducible rfl)
      try simp only [List.getElem_toArray, List.getElem_cons_succ, List.getElem_cons_zero, Act.put, List.setIfInBounds_toArray, List.set_cons_zero, List.set_cons_succ]
      refine wpAnyH_take (i := 19) (v := ?_) rfl (by kernel_rfl) (by kernel_rfl) (by kernel_rfl) (fun _ _ _ h => h) (Or.inl ⟨by rfl, ?_⟩) hH2 ?_
      rotate_left
      · intro W hW
        obtain ⟨z1, z2, z3, z4, z5, z6⟩ := hW
        first | (go_simp; done) | (go_simp; with_reducible rfl)
      try simp only [List.getElem_toArray, List.getElem_cons_succ, List.getElem_cons_zero, Act.put, List.setIfInBounds_toArray, List.set_cons_zero, List.set_cons_succ]
      refine wpAnyH_take (i := 20) (v := ?_) rfl (by kernel_rfl) (by kernel_rfl) (by kernel_rfl) (fun _ _ _ h => h) (Or.inl ⟨by rfl, ?_⟩) hH2 ?_
      rotate_left
      · intro W hW
        obtain ⟨z1, z2, z3, z4, z5, z6⟩ := hW
        first | (go_simp; done) | (go_simp; with_reducible rfl)
      try simp only [List.getElem_toArray, List.getElem_cons_succ, List.getElem_cons_zero, Act.put, List.setIfInBounds_toArray, List.set_cons_zero, List.set_cons_succ]
      refine wpAnyH_take (i := 21) (v := ?_) rfl (by kernel_rfl) (by kernel_rfl) (by kernel_rfl) (fun _ _ _ h => h) (Or.inl ⟨by rfl, ?_⟩) hH2 ?_
      rotate_left
      · intro W hW
        obtain ⟨z1, z2, z3, z4, z5, z6⟩ := hW
        first | (go_simp; done) | (go_simp; with_reducible rfl)
      try simp only [List.getElem_toArray, List.getElem_cons_succ, List.getElem_cons_zero, Act.put, List.setIfInBounds_toArray, List.set_cons_zero, List.set_cons_succ]
      refine wpAnyH_take (i := 22) (v := ?_) rfl (by kernel_rfl) (by kernel_rfl) (by kernel_rfl) (fun _ _ _ h => h) (Or.inl ⟨by rfl, ?_⟩) hH2 ?_
      rotate_left
      · intro W hW
        obtain ⟨z1, z2, z3, z4, z5, z6⟩ := hW
        first | (go_simp; done) | (go_simp; with_reducible rfl)
      try simp only [List.getElem_toArray, List.getElem_cons_succ, List.getElem_cons_zero, Act.put, List.setIfInBounds_toArray, List.set_cons_zero, List.set_cons_succ]
      refine wpAnyH_take (i := 23) (v := ?_) rfl (by kernel_rfl) (by kernel_rfl) (by kernel_rfl) (fun _ _ _ h => h) (Or.inl ⟨by rfl, ?_⟩) hH2 ?_
      rotate_left
      · intro W hW
        obtain ⟨z1, z2, z3, z4, z5, z6⟩ := hW
        first | (go_simp; done) | (go_simp; with_reducible rfl)
      try simp only [List.getElem_toArray, List.getElem_cons_succ, List.getElem_cons_zero, Act.put, List.setIfInBounds_toArray, List.set_cons_zero, List.set_cons_succ]
      refine wpAnyH_take (i := 24) (v := ?_) rfl (by kernel_rfl) (by kernel_rfl) (by kernel_rfl) (fun _ _ _ h => h) (Or.inl ⟨by rfl, ?_⟩) hH2 ?_
      rotate_left
      · intro W hW
        obtain ⟨z1, z2, z3, z4, z5, z6⟩ := hW
        first | (go_simp; done) | (go_simp; with_reducible rfl)
      try simp only [List.getElem_toArray, List.getElem_cons_succ, List.getElem_cons_zero, Act.put, List.setIfInBounds_toArray, List.set_cons_zero, List.set_cons_succ]
      refine wpAnyH_take (i := 25) (v := ?_) rfl (by kernel_rfl) (by kernel_rfl) (by kernel_rfl) (fun _ _ _ h => h) (Or.inl ⟨by rfl, ?_⟩) hH2 ?_
      rotate_left
      · intro W hW
        obtain ⟨z1, z2, z3, z4, z5, z6⟩ := hW
        first | (go_simp; done) | (go_simp; with_reducible rfl)
      try simp only [List.getElem_toArray, List.getElem_cons_succ, List.getElem_cons_zero, Act.put, List.setIfInBounds_toArray, List.set_cons_zero, List.set_cons_succ]
      refine wpAnyH_take (i := 26) (v := ?_) rfl (by kernel_rfl) (by kernel_rfl) (by kernel_rfl) (fun _ _ _ h => h) (Or.inl ⟨by rfl, ?_⟩) hH2 ?_
      rotate_left
      · intro W hW
        obtain ⟨z1, z2, z3, z4, z5, z6⟩ := hW
        first | (go_simp; done) | (go_simp; with_reducible rfl)
      try simp only [List.getElem_toArray, List.getElem_cons_succ, List.getElem_cons_zero, Act.put, List.setIfInBounds_toArray, List.set_cons_zero, List.set_cons_succ]
      refine wpAnyH_ready (rs := [27]) (by kernel_rfl) (by simp) ?_
      refine AllReadyH.cons rfl (fun K hK => ?_) AllReadyH.nil
      go_simp
      go_at_call 16
      refine (C2.out _ hba).mono ?_
      rintro e wc ⟨rfl, hc⟩
      have hbc : Below wr.heap.size wr wc := hba.trans (hc.mono hba.size)
      go_wp2_with fail
      refine hK.out _ _ (HC.out _ hbc) (fun hH3 => ?_)
      clear hK K
      try simp only [List.getElem_toArray, List.getElem_cons_succ, List.getElem_cons_zero, Act.put, List.setIfInBounds_toArray, List.set_cons_zero, List.set_cons_succ]
      refine wpAnyH_take (i := 28) (v := ?_) rfl (by kernel_rfl) (by kernel_rfl) (by kernel_rfl) (fun _ _ _ h => h) (Or.inl ⟨by rfl, ?_⟩) hH3 ?_
      rotate_left
      · intro W hW
        obtain ⟨z1, z2, z3, z4, z5, z6⟩ := hW
        first | (go_simp; done) | (go_simp; with_reducible rfl)
      try simp only [List.getElem_toArray, List.getElem_cons_succ, List.getElem_cons_zero, Act.put, List.setIfInBounds_toArray, List.set_cons_zero, List.set_cons_succ]
      refine wpAnyH_take (i := 29) (v := ?_) rfl (by kernel_rfl) (by kernel_rfl) (by kernel_rfl) (fun _ _ _ h => h) (Or.inl ⟨by rfl, ?_⟩) hH3 ?_
      rotate_left
      · intro W hW
        obtain ⟨z1, z2, z3, z4, z5, z6⟩ := hW
        first | (go_simp; done) | (go_simp; with_reducible rfl)
      try simp only [List.getElem_toArray, List.getElem_cons_succ, List.getElem_cons_zero, Act.put, List.setIfInBounds_toArray, List.set_cons_zero, List.set_cons_succ]
      refine wpAnyH_done (by kernel_rfl) ?_ _
      have HBC := Lib.hid (hb.out.trans (hbc.mono hbl))
      clear HC C1 C2 hba hbc ha hc hbd hS0
      go_wp2
      go_roundw
      case rel => exact ⟨k + 1, by omega, by go_num, HBC⟩
      case measure => simp [intOf]; omega
    · go_wp2
      go_ret
      exact ⟨rfl, B0.out.trans (hb.out.mono (by omega))⟩

end Go.Proofs.Ytabfdaofikccmaa
