/- The program's OptionsOf. -/
import Derived.Test.YtlhpkoaegldjdaaFmOptI
import Derived.Deep.RegionHeld3
namespace Go.Proofs.Ytlhpkoaegldjdaa
open Go.RowKit
set_option linter.unusedVariables false
set_option linter.unusedSimpArgs false

/-- the last node -/
def lastN (f : List Nz) : Nd := (f.map downN).getD (f.length - 1) ([], [])
/-- the games of some places -/
def partsF (f : List Nz) (L : List Nat) : List (List Nz) := L.map (fun x => (partI (f.map downN) x).map upN)
/-- a side's options, if the form is good -/
def optV (f : List Nz) (l : Bool) : List (List Nz) := if goodB f then partsF f (if l then (lastN f).1 else (lastN f).2) else []

theorem lastN_at {f : List Nz} (h : 0 < f.length) : (f.map downN)[f.length - 1]? = some (lastN f) := by
  obtain ⟨nd, hnd⟩ := lt_get (l := f.map downN) (i := f.length - 1) (by simp; omega)
  rw [hnd]
  unfold lastN
  rw [List.getD_eq_getElem?_getD, hnd]
  rfl

theorem lastN_small {f : List Nz} (h : goodB f = true) : (lastN f).1.length ≤ 24 ∧ (lastN f).2.length ≤ 24 := by
  have hf := ((goodB_iff f).1 h).1
  have h1 := List.mem_of_getElem? (lastN_at hf.1)
  obtain ⟨x, hx, e⟩ := List.mem_map.1 h1
  rw [← e]
  have := hf.2.2 x hx
  simpa [downN, downL] using this

theorem lastN_lt {f : List Nz} (h : goodB f = true) (x : Nat) (hx : x ∈ (lastN f).1 ∨ x ∈ (lastN f).2) : x < f.length := by
  obtain ⟨hf1, hf2, _⟩ := (goodB_iff f).1 h
  have := hf2.up.2.under _ _ (lastN_at hf1.1) x hx
  omega

theorem opt3 {w w' : World} {b c d o : Nat} {v1 v2 v3 : Value} (h1 : w.cell? ⟨b, 0, none⟩ = some v1) (h2 : w.cell? ⟨c, 0, none⟩ = some v2) (h3 : w.cell? ⟨d, o, none⟩ = some v3) (hB : Below w.heap.size w w') : w'.cell? ⟨b, 0, none⟩ = some v1 ∧ w'.cell? ⟨c, 0, none⟩ = some v2 ∧ w'.cell? ⟨d, o, none⟩ = some v3 :=
  ⟨(bcell hB b 0 (block_of_cell h1)).trans h1, (bcell hB c 0 (block_of_cell h2)).trans h2, (bcell hB d o (block_of_cell h3)).trans h3⟩

set_option maxRecDepth 100000 in
set_option maxHeartbeats 2000000 in
theorem optionsI_calls (va : Value) (f : List Nz) (G1 G2 : List (List Nz)) (ok : Bool) (hok : Hid (goodB f = ok)) (h1 : Hid (optV f true = G1)) (h2 : Hid (optV f false = G2)) (w : World) (lo hi : Nat) (hh : hi ≤ w.heap.size) (hva : NodesZ w lo hi va f) :
    Calls Try.prog 27 #[.agg #[va]] w fun e w' => ∃ (g1 g2 N : Nat) (p1 p2 : List (Value × List (Value × Value))), e = .returned (.tuple #[.slice (some ⟨g1, 0, none⟩) G1.length G1.length, .slice (some ⟨g2, 0, none⟩) G2.length G2.length, .bool ok]) ∧
      OwnFS w' w.heap.size (.slice (some ⟨g1, 0, none⟩) G1.length G1.length) p1 G1 ∧ OwnFS w' w.heap.size (.slice (some ⟨g2, 0, none⟩) G2.length G2.length) p2 G2 ∧
      (∀ b, AllFS (.slice (some ⟨g1, 0, none⟩) G1.length G1.length) p1 b → b < N) ∧ (∀ b, AllFS (.slice (some ⟨g2, 0, none⟩) G2.length G2.length) p2 b → N ≤ b) ∧ Below w.heap.size w w' := by
  have HB0 := Lib.hid fun o => show Below w.heap.size w (w.alloc o) from ((Below.refl _ _).alloc (Nat.le_refl _) _)
  have CG := Lib.hid fun (W : World) (hW : Below w.heap.size w W) => goodI_resP va f ok hok W lo hi (Nat.le_trans hh hW.size) (hva.below hW hh)
  have HVA := Lib.hid fun (W : World) (hW : Below w.heap.size w W) => hva.below hW hh
  obtain ⟨ao, c0, rfl⟩ : ∃ ao c, va = .slice ao f.length c := by obtain ⟨ao, c, e, _⟩ := hva; exact ⟨ao, c, e⟩
  clear hva
  go_enter Try.func27, Try.ntmps27
  go_wp2_with fail
  refine (CG.out _ (HB0.out _)).mono ?_
  rintro e w4 ⟨rfl, hb4⟩
  have k0 : w4.cell? ⟨w.heap.size, 0, none⟩ = some (.slice ao f.length c0) := (bcell hb4 _ _ (by simp)).trans (by go_simp)
  have HB4 := Lib.hid (Below.trans (HB0.out _) (hb4.mono (by simp)))
  clear hb4 CG
  cases ok with
  | false =>
    obtain rfl : G1 = [] := by rw [← h1.out]; unfold optV; rw [hok.out]; rfl
    obtain rfl : G2 = [] := by rw [← h2.out]; unfold optV; rw [hok.out]; rfl
    have L1 : OwnFS (w4.alloc (.cells #[] 26)) w.heap.size (.slice (some ⟨w4.heap.size, 0, none⟩) 0 0) [] [] := ownFS_made (World.ownsRow_lit (base := w.heap.size) (e := 26) (size := 1) w4 #[] 0 HB4.out.size (by unfold maxLen; omega) rfl)
    have hx : Below w4.heap.size w4 (w4.alloc (.cells #[] 26)) := (Below.refl _ _).alloc (Nat.le_refl _) _
    have L2 : OwnFS ((w4.alloc (.cells #[] 26)).alloc (.cells #[] 26)) w.heap.size (.slice (some ⟨w4.heap.size + 1, 0, none⟩) 0 0) [] [] := by
      have h := World.ownsRow_lit (base := w.heap.size) (e := 26) (size := 1) (w4.alloc (.cells #[] 26)) #[] 0 (by have := HB4.out.size; simp; omega) (by unfold maxLen; omega) rfl
      rw [show (w4.alloc (.cells #[] 26)).heap.size = w4.heap.size + 1 from by simp] at h
      exact ownFS_made h
    have O1 := Lib.hid (L1.below (w' := (w4.alloc (.cells #[] 26)).alloc (.cells #[] 26)) ((Below.refl _ _).alloc (Nat.le_refl _) _))
    have O2 := Lib.hid L2
    have B6 : Hid (Below w.heap.size w ((w4.alloc (.cells #[] 26)).alloc (.cells #[] 26))) := Lib.hid ((HB4.out.alloc HB4.out.size _).alloc (by have := HB4.out.size; simp; omega) _)
    have A1 : Hid (∀ b, AllFS (.slice (some ⟨w4.heap.size, 0, none⟩) 0 0) [] b → b = w4.heap.size) := Lib.hid (fun b hb => by
      rcases hb with hb | ⟨j, p, hp, _⟩
      · injection hb with hb
        exact hb.symm
      · simp at hp)
    have A2 : Hid (∀ b, AllFS (.slice (some ⟨w4.heap.size + 1, 0, none⟩) 0 0) [] b → b = w4.heap.size + 1) := Lib.hid (fun b hb => by
      rcases hb with hb | ⟨j, p, hp, _⟩
      · injection hb with hb
        exact hb.symm
      · simp at hp)
    clear L1 L2 hx
    go_wp2_with fail
    exact bodyPost_ret (v := .tuple #[.slice (some ⟨w4.heap.size, 0, none⟩) 0 0, .slice (some ⟨w4.heap.size + 1, 0, none⟩) 0 0, .bool false]) (by simp [results, Try.results27, go_sem]) rfl ⟨_, _, w4.heap.size + 1, [], [], rfl, O1.out, O2.out, fun b hb => by have := A1.out b hb; omega, fun b hb => by have := A2.out b hb; omega, B6.out⟩
  | true =>
    have hg := hok.out
    obtain ⟨hf1, hf2, _⟩ := (goodB_iff f).1 hg
    have e1 : (f.map downN).length = f.length := by simp
    have l0 := hf1.1
    have l1 := hf1.2.1
    have hsm := lastN_small hg
    have E1 : Hid (partsF f (lastN f).1 = G1) := Lib.hid (by rw [← h1.out]; unfold optV; rw [hg]; rfl)
    have E2 : Hid (partsF f (lastN f).2 = G2) := Lib.hid (by rw [← h2.out]; unfold optV; rw [hg]; rfl)
    have hgl1 : (lastN f).1.length = G1.length := by rw [← E1.out]; simp [partsF]
    have hgl2 : (lastN f).2.length = G2.length := by rw [← E2.out]; simp [partsF]
    have C := Lib.hid fun (W : World) (hW : Below w.heap.size w W) (vt : Value) (L : List Nat) (lo' hi' : Nat) (hh' : hi' ≤ W.heap.size) (ht : IntsZ W lo' hi' vt (upL L)) (hL : ∀ x ∈ L, x < f.length) (hl2 : L.length ≤ 1000) => partsI_calls (.slice ao f.length c0) vt (f.map downN) L W lo hi lo' hi' (Nat.le_trans hh hW.size) hh' (by rw [hf2.up.1]; exact HVA.out W hW) ht hf2.up.2.under (by rw [e1]; exact hL) (by rw [e1]; exact l1) hl2 (fun nd hnd => by
      obtain ⟨x, hx, rfl⟩ := List.mem_map.1 hnd
      have := hf1.2.2 x hx
      simpa [downN, downL] using this)
    obtain ⟨b, off, cc, v1, v2, e, hbh, p1, p2, i1, i2⟩ := nodes_atP (by rw [hf2.up.1]; exact HVA.out w4 HB4.out) (lastN_at l0)
    rw [e1] at e
    obtain ⟨q1, _, q3⟩ := slice_inj e
    subst q1 q3
    obtain ⟨a1, d1, rfl, hd1⟩ := ints_lenP i1
    obtain ⟨a2, d2, rfl, hd2⟩ := ints_lenP i2
    have hn1 : IntKind.i64.wrap ((f.length : Int) - 1) = ((f.length - 1 : Nat) : Int) := by rw [IntWalk.i64_in _ (by omega)]; omega
    have hn2 : ((f.length - 1 : Nat) : Int) < f.length := by omega
    have hlt := Lib.hid (fun x => lastN_lt hg x)
    have hhi := Nat.le_trans hh HB4.out.size
    have HG1 := Lib.hid hgl1
    have HG2 := Lib.hid hgl2
    clear hgl1 hgl2
    generalize lastN f = nd at E1 E2 HG1 HG2 i1 i2 hd1 hd2 p1 p2 hsm hlt
    have hbt : Below w4.heap.size w4 (w4.alloc (.cells #[.slice a1 nd.1.length d1, .slice a2 nd.2.length d2] 70)) := (Below.refl _ _).alloc (Nat.le_refl _) _
    have t0 : (w4.alloc (.cells #[.slice a1 nd.1.length d1, .slice a2 nd.2.length d2] 70)).cell? ⟨w4.heap.size, 0, none⟩ = some (.slice a1 nd.1.length d1) := by go_simp
    have t1 : (w4.alloc (.cells #[.slice a1 nd.1.length d1, .slice a2 nd.2.length d2] 70)).cell? ⟨w4.heap.size, 1, none⟩ = some (.slice a2 nd.2.length d2) := by go_simp
    have I1 := Lib.hid (i1.below hbt hhi)
    have I2 := Lib.hid (i2.below hbt hhi)
    have k0' := (bcell hbt _ _ (block_of_cell k0)).trans k0
    have B5 := Lib.hid (HB4.out.trans (hbt.mono HB4.out.size))
    clear e i1 i2 hbt hf1 hf2 e1 hg h1 h2 hok
    go_upto_region 4 with fail
    generalize (w4.alloc (.cells #[.slice a1 nd.1.length d1, .slice a2 nd.2.length d2] 70)) = w5 at t0 t1 I1 I2 k0' B5 ⊢
    have hbd : Below w5.heap.size w5 w5.drew := below_drewN (Below.refl _ _) 1
    have z0 := block_of_cell k0'
    have z1 := block_of_cell t0
    have hs5 := B5.out.size
    have C1 := Lib.hid fun (W : World) (hW : Below w5.heap.size w5 W) => C.out W (B5.out.trans (hW.mono hs5)) (.slice a1 nd.1.length d1) nd.1 lo hi (by have := hW.size; omega) (I1.out.below hW (by omega)) (fun x hx => hlt.out x (Or.inl hx)) (by omega)
    have C2 := Lib.hid fun (W : World) (hW : Below w5.heap.size w5 W) => C.out W (B5.out.trans (hW.mono hs5)) (.slice a2 nd.2.length d2) nd.2 lo hi (by have := hW.size; omega) (I2.out.below hW (by omega)) (fun x hx => hlt.out x (Or.inr hx)) (by omega)
    have E1' : nd.1.map (fun x => (partI (f.map downN) x).map upN) = G1 := E1.out
    have E2' : nd.2.map (fun x => (partI (f.map downN) x).map upN) = G2 := E2.out
    rw [E1'] at C1
    rw [E2'] at C2
    clear E1' E2'
    have hS0 : w5.drew.cell? ⟨w.heap.size, 0, none⟩ = some (.slice (some ⟨b, off, none⟩) f.length c0) ∧ w5.drew.cell? ⟨w4.heap.size, 0, none⟩ = some (.slice a1 nd.1.length d1) ∧ w5.drew.cell? ⟨w4.heap.size, 1, none⟩ = some (.slice a2 nd.2.length d2) := ⟨k0', t0, t1⟩
    go_region_held3 (fun w' : World => w'.cell? ⟨w.heap.size, 0, none⟩ = some (.slice (some ⟨b, off, none⟩) f.length c0) ∧ w'.cell? ⟨w4.heap.size, 0, none⟩ = some (.slice a1 nd.1.length d1) ∧ w'.cell? ⟨w4.heap.size, 1, none⟩ = some (.slice a2 nd.2.length d2)) (first | exact hS0 | (go_split_ands; exact ⟨‹_›, ‹_›, ‹_›⟩) | exact opt3 k0' t0 t1 (by assumption)) (first
      | (go_at_call 65; (with_reducible refine (C1.out _ hbd).mono ?_); rintro e wa ⟨g1, ps1, rfl, ho1, hba⟩; have HBa : Below w5.heap.size w5 wa := hbd.trans (hba.mono (by simp)))
      | (go_at_call 65; (with_reducible refine (C2.out wa HBa).mono ?_); rintro e wb ⟨g2, ps2, rfl, ho2, hbb⟩; have HBb : Below w5.heap.size w5 wb := HBa.trans (hbb.mono HBa.size)))
    all_goals
      have O1 := Lib.hid ((ho1.below hbb).mono (base' := w.heap.size) (by show w.heap.size ≤ w5.heap.size; omega))
      have O2 := Lib.hid (ho2.mono (base' := w.heap.size) (by have := HBa.size; omega))
      have A1 : Hid (∀ b, AllFS (.slice (some ⟨g1, 0, none⟩) nd.1.length nd.1.length) ps1 b → b < wa.heap.size) := Lib.hid (fun b hb => (ho1.allS hb).2)
      have A2 : Hid (∀ b, AllFS (.slice (some ⟨g2, 0, none⟩) nd.2.length nd.2.length) ps2 b → wa.heap.size ≤ b) := Lib.hid (fun b hb => (ho2.allS hb).1)
      have B6 := Lib.hid (B5.out.trans (HBb.mono hs5))
      clear ho1 ho2 hba hbb HBa HBb hS0 t0 t1 k0'
      go_wp2_with fail
      refine bodyPost_ret (v := .tuple #[.slice (some ⟨g1, 0, none⟩) nd.1.length nd.1.length, .slice (some ⟨g2, 0, none⟩) nd.2.length nd.2.length, .bool true]) (by simp [results, Try.results27, go_sem]) rfl ?_
      rw [← HG1.out, ← HG2.out]
      exact ⟨_, _, wa.heap.size, ps1, ps2, rfl, O1.out, O2.out, A1.out, A2.out, B6.out⟩

end Go.Proofs.Ytlhpkoaegldjdaa
