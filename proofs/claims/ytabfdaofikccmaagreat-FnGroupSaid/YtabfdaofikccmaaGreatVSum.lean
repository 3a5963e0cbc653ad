/- laws.vSum: the sum, and that the model has the same one. -/
import Derived.Test.YtabfdaofikccmaaGreatVSame
import Derived.Test.YtabfdaofikccmaaGreatSpAll
import Derived.Test.YtabfdaofikccmaaGreatSqAll
namespace Go.Proofs.YtabfdaofikccmaaGreat
open Go.RowKit
set_option linter.unusedVariables false
set_option linter.unusedSimpArgs false

set_option maxRecDepth 100000 in
set_option maxHeartbeats 8000000 in
theorem vSum_calls (va vb : Value) (f g h : List Nz) (ok : Bool) (hok : Hid (sumOk f g = ok)) (hv : Hid (sumV f g = h)) (w : World) (lo hi lo' hi' : Nat) (hh : hi ≤ w.heap.size) (hh' : hi' ≤ w.heap.size) (hva : NodesZ w lo hi va f) (hvb : NodesZ w lo' hi' vb g) :
    Calls Tryz.prog 21 #[.agg #[va], .agg #[vb]] w fun e w' => ∃ a c, e = .returned (.tuple #[.agg #[.slice a h.length c], .bool ok, .bool true]) ∧ NodesZ w' w.heap.size w'.heap.size (.slice a h.length c) h ∧ Below w.heap.size w w' := by
  have b0 : Below w.heap.size w (((w.alloc (.cells #[va] 26)).alloc (.cells #[vb] 26)).alloc (.cells #[.slice none 0 0] 26)) := (((Below.refl _ _).alloc (Nat.le_refl _) _).alloc (by simp) _).alloc (by simp; omega) _
  have z0 : (((w.alloc (.cells #[va] 26)).alloc (.cells #[vb] 26)).alloc (.cells #[.slice none 0 0] 26)).heap.size = w.heap.size + 3 := by simp
  have k1 : (((w.alloc (.cells #[va] 26)).alloc (.cells #[vb] 26)).alloc (.cells #[.slice none 0 0] 26)).cell? ⟨w.heap.size, 0, none⟩ = some va := by go_simp
  have k2 : (((w.alloc (.cells #[va] 26)).alloc (.cells #[vb] 26)).alloc (.cells #[.slice none 0 0] 26)).cell? ⟨w.heap.size + 1, 0, none⟩ = some vb := by go_simp
  have x0 : BoxAt (((w.alloc (.cells #[va] 26)).alloc (.cells #[vb] 26)).alloc (.cells #[.slice none 0 0] 26)) (w.heap.size + 2) (.slice none 0 0) := by
    have h : ((w.alloc (.cells #[va] 26)).alloc (.cells #[vb] 26)).heap.size = w.heap.size + 2 := by simp
    rw [← h]
    exact ⟨by go_simp, by go_simp⟩
  have hva0 := hva.below b0 hh
  have hvb0 := hvb.below b0 hh'
  have B0 := Lib.hid b0
  have X0 := Lib.hid x0
  have HA := Lib.hid hva0
  have HB := Lib.hid hvb0
  clear hva hvb hva0 hvb0 b0 x0
  go_enter Tryz.func21, Tryz.ntmps21
  go_upto_region 1 with fail
  generalize (((w.alloc (.cells #[va] 26)).alloc (.cells #[vb] 26)).alloc (.cells #[.slice none 0 0] 26)) = w0 at z0 k1 k2 B0 X0 HA HB ⊢
  have HK := Lib.hid fun (W : World) (hW : Below w0.heap.size w0 W) => And.intro (keepV k1 hW) (keepV k2 hW)
  have CI := Lib.hid fun (W : World) (hW : Below w0.heap.size w0 W) => sumI_calls va vb f g h ok hok hv W lo hi lo' hi' (by have := hW.size; omega) (by have := hW.size; omega) (HA.out.below hW (by omega)) (HB.out.below hW (by omega))
  have CS := Lib.hid fun (W : World) (hW : Below w0.heap.size w0 W) => sumS_calls va vb f g h ok hok hv W lo hi lo' hi' (by have := hW.size; omega) (by have := hW.size; omega) (HA.out.below hW (by omega)) (HB.out.below hW (by omega))
  clear HA HB
  go_wp2_with fail
  refine (CI.out _ (Below.refl _ _)).mono ?_
  rintro e w1 ⟨a1, c1, vs1, rfl, ho1, hb1⟩
  have hal1 : Below w1.heap.size w1 (w1.alloc (.cells #[.slice a1 h.length c1] 26)) := (Below.refl _ _).alloc (Nat.le_refl _) _
  have j1 : (w1.alloc (.cells #[.slice a1 h.length c1] 26)).cell? ⟨w1.heap.size, 0, none⟩ = some (.slice a1 h.length c1) := by go_simp
  have z1 : (w1.alloc (.cells #[.slice a1 h.length c1] 26)).heap.size = w1.heap.size + 1 := by simp
  have s1 := hb1.size
  have P1 := Lib.hid (ho1.nodesZ.below hal1 (Nat.le_refl _))
  have HB1 := Lib.hid (hb1.trans (hal1.mono hb1.size))
  clear ho1 hb1 hal1 CI k1 k2
  go_upto_region 2 with fail
  generalize (w1.alloc (.cells #[.slice a1 h.length c1] 26)) = w2 at j1 z1 P1 HB1 ⊢
  generalize w1.heap.size = D1 at j1 z1 P1 s1 ⊢
  obtain ⟨k1, k2⟩ := HK.out _ HB1.out
  go_wp2_with fail
  refine (CS.out _ HB1.out).mono ?_
  rintro e w3 ⟨a3, c3, rfl, ho3, hb3⟩
  have hal3 : Below w3.heap.size w3 (w3.alloc (.cells #[.slice a3 h.length c3] 26)) := (Below.refl _ _).alloc (Nat.le_refl _) _
  have j3 : (w3.alloc (.cells #[.slice a3 h.length c3] 26)).cell? ⟨w3.heap.size, 0, none⟩ = some (.slice a3 h.length c3) := by go_simp
  have z3 : (w3.alloc (.cells #[.slice a3 h.length c3] 26)).heap.size = w3.heap.size + 1 := by simp
  have hb4 : Below w2.heap.size w2 (w3.alloc (.cells #[.slice a3 h.length c3] 26)) := hb3.trans (hal3.mono hb3.size)
  have P3 := Lib.hid (ho3.below hal3 (Nat.le_refl _))
  have P1' := Lib.hid (P1.out.below hb4 (by omega))
  have j1' := keepV j1 hb4
  have HB4 := Lib.hid (HB1.out.trans (hb4.mono HB1.out.size))
  have s3 := hb3.size
  clear ho3 hb3 hal3 hb4 CS k1 k2 P1 HB1 j1 HK
  go_upto_region 3 with fail
  generalize (w3.alloc (.cells #[.slice a3 h.length c3] 26)) = w4 at j3 j1' z3 P3 P1' HB4 ⊢
  generalize w3.heap.size = D3 at j3 z3 P3 s3 ⊢
  have X4 := Lib.hid (X0.out.below HB4.out)
  have B4 := Lib.hid (B0.out.trans (HB4.out.mono (by omega)))
  have C := Lib.hid fun (W : World) (hW : Below w4.heap.size w4 W) => vSame_same (.slice a1 h.length c1) (.slice a3 h.length c3) h W w0.heap.size D1 w2.heap.size D3 (by have := hW.size; omega) (by have := hW.size; omega) (P1'.out.below hW (by omega)) (P3.out.below hW (by omega))
  clear HB4 X0 B0 P3
  have hbd : Below w4.heap.size w4 w4.drew := below_drewN (Below.refl _ _) 1
  have HSW := Lib.hid fun (W : World) (h' : Only w4 W (fun b => b = w.heap.size + 2)) => show W.cell? ⟨D1, 0, none⟩ = some (.slice a1 h.length c1) ∧ W.cell? ⟨D3, 0, none⟩ = some (.slice a3 h.length c3) from ⟨(h'.cell (by omega) (by omega)).trans j1', (h'.cell (by omega) (by omega)).trans j3⟩
  have hS0 := HSW.out _ (Only.of_below hbd)
  have xd := X4.out.below hbd
  have hlw := B4.out.size
  obtain ⟨xd1, xd2⟩ := xd
  have e1 : (ok == ok) = true := by simp
  go_wp2_with fail
  refine wp_region_held_drew (S := (fun W : World => W.cell? ⟨D1, 0, none⟩ = some (.slice a1 h.length c1) ∧ W.cell? ⟨D3, 0, none⟩ = some (.slice a3 h.length c3))) (by kernel_rfl) hS0 (fun hHeld => ?_)
  refine wpAnyH_take (i := 0) (v := ?_) rfl (by kernel_rfl) (by kernel_rfl) (by kernel_rfl) (fun _ _ _ h => h) (Or.inl ⟨by rfl, ?_⟩) hHeld ?_
  rotate_left
  · intro W hW
    obtain ⟨z1, z2⟩ := hW
    first | (go_simp; done) | (go_simp; with_reducible rfl)
  try simp only [List.getElem_toArray, List.getElem_cons_succ, List.getElem_cons_zero, Act.put, List.setIfInBounds_toArray, List.set_cons_zero, List.set_cons_succ]
  refine wpAnyH_take (i := 1) (v := ?_) rfl (by kernel_rfl) (by kernel_rfl) (by kernel_rfl) (fun _ _ _ h => h) (Or.inl ⟨by rfl, ?_⟩) hHeld ?_
  rotate_left
  · intro W hW
    obtain ⟨z1, z2⟩ := hW
    first | (go_simp; done) | (go_simp; with_reducible rfl)
  try simp only [List.getElem_toArray, List.getElem_cons_succ, List.getElem_cons_zero, Act.put, List.setIfInBounds_toArray, List.set_cons_zero, List.set_cons_succ]
  refine wpAnyH_take (i := 2) (v := ?_) rfl (by kernel_rfl) (by kernel_rfl) (by kernel_rfl) (fun _ _ _ h => h) (Or.inl ⟨by rfl, ?_⟩) hHeld ?_
  rotate_left
  · intro W hW
    obtain ⟨z1, z2⟩ := hW
    first | (go_simp; done) | (go_simp; with_reducible rfl)
  try simp only [List.getElem_toArray, List.getElem_cons_succ, List.getElem_cons_zero, Act.put, List.setIfInBounds_toArray, List.set_cons_zero, List.set_cons_succ]
  refine wpAnyH_take (i := 3) (v := ?_) rfl (by kernel_rfl) (by kernel_rfl) (by kernel_rfl) (fun _ _ _ h => h) (Or.inl ⟨by rfl, ?_⟩) hHeld ?_
  rotate_left
  · intro W hW
    obtain ⟨z1, z2⟩ := hW
    first | (go_simp; done) | (go_simp; with_reducible rfl)
  try simp only [List.getElem_toArray, List.getElem_cons_succ, List.getElem_cons_zero, Act.put, List.setIfInBounds_toArray, List.set_cons_zero, List.set_cons_succ]
  refine wpAnyH_take (i := 4) (v := ?_) rfl (by kernel_rfl) (by kernel_rfl) (by kernel_rfl) (fun _ _ _ h => h) (Or.inl ⟨by rfl, ?_⟩) hHeld ?_
  rotate_left
  · intro W hW
    obtain ⟨z1, z2⟩ := hW
    first | (go_simp; done) | (go_simp; with_reducible rfl)
  try simp only [List.getElem_toArray, List.getElem_cons_succ, List.getElem_cons_zero, Act.put, List.setIfInBounds_toArray, List.set_cons_zero, List.set_cons_succ]
  refine wpAnyH_take (i := 5) (v := ?_) rfl (by kernel_rfl) (by kernel_rfl) (by kernel_rfl) (fun _ _ _ h => h) (Or.inl ⟨by rfl, ?_⟩) hHeld ?_
  rotate_left
  · intro W hW
    obtain ⟨z1, z2⟩ := hW
    first | (go_simp; done) | (go_simp; with_reducible rfl)
  try simp only [List.getElem_toArray, List.getElem_cons_succ, List.getElem_cons_zero, Act.put, List.setIfInBounds_toArray, List.set_cons_zero, List.set_cons_succ]
  refine wpAnyH_take (i := 6) (v := ?_) rfl (by kernel_rfl) (by kernel_rfl) (by kernel_rfl) (fun _ _ _ h => h) (Or.inl ⟨by rfl, ?_⟩) hHeld ?_
  rotate_left
  · intro W hW
    obtain ⟨z1, z2⟩ := hW
    first | (go_simp; done) | (go_simp; with_reducible rfl)
  try simp only [List.getElem_toArray, List.getElem_cons_succ, List.getElem_cons_zero, Act.put, List.setIfInBounds_toArray, List.set_cons_zero, List.set_cons_succ]
  refine wpAnyH_take (i := 7) (v := ?_) rfl (by kernel_rfl) (by kernel_rfl) (by kernel_rfl) (fun _ _ _ h => h) (Or.inl ⟨by rfl, ?_⟩) hHeld ?_
  rotate_left
  · intro W hW
    obtain ⟨z1, z2⟩ := hW
    first | (go_simp; done) | (go_simp; with_reducible rfl)
  try simp only [List.getElem_toArray, List.getElem_cons_succ, List.getElem_cons_zero, Act.put, List.setIfInBounds_toArray, List.set_cons_zero, List.set_cons_succ]
  refine wpAnyH_ready (rs := [8]) (by kernel_rfl) (by simp) ?_
  refine AllReadyH.cons rfl (fun K hK => ?_) AllReadyH.nil
  go_simp
  go_at_call 16
  refine (C.out _ hbd).mono ?_
  rintro e wb ⟨rfl, hb⟩
  have hbb : Below w4.heap.size w4 wb := hbd.trans (hb.mono hbd.size)
  obtain ⟨y1, y2⟩ := X4.out.below hbb
  go_wp2_with fail
  refine hK.out _ _ (HSW.out _ (Only.of_below hbb)) (fun hH2 => ?_)
  clear hK K
  try simp only [List.getElem_toArray, List.getElem_cons_succ, List.getElem_cons_zero, Act.put, List.setIfInBounds_toArray, List.set_cons_zero, List.set_cons_succ]
  refine wpAnyH_take (i := 9) (v := ?_) rfl (by kernel_rfl) (by kernel_rfl) (by kernel_rfl) (fun _ _ _ h => h) (Or.inl ⟨by rfl, ?_⟩) hH2 ?_
  rotate_left
  · intro W hW
    obtain ⟨z1, z2⟩ := hW
    first | (go_simp; done) | (go_simp; with_reducible rfl)
  try simp only [List.getElem_toArray, List.getElem_cons_succ, List.getElem_cons_zero, Act.put, List.setIfInBounds_toArray, List.set_cons_zero, List.set_cons_succ]
  refine wpAnyH_ready (rs := [10]) (by kernel_rfl) (by simp) ?_
  refine AllReadyH.cons rfl (fun K hK => ?_) AllReadyH.nil
  go_simp
  have hset : Only wb (wb.setCell ⟨w.heap.size + 2, 0, none⟩ (.slice a1 h.length c1)) (fun b => b = w.heap.size + 2) := Only.of_set (F := fun b => b = w.heap.size + 2) _ rfl
  refine hK.out _ _ (HSW.out _ ((Only.of_below hbb).trans hset (fun _ _ h => h))) (fun hH3 => ?_)
  clear hK K
  try simp only [List.getElem_toArray, List.getElem_cons_succ, List.getElem_cons_zero, Act.put, List.setIfInBounds_toArray, List.set_cons_zero, List.set_cons_succ]
  refine wpAnyH_take (i := 11) (v := ?_) rfl (by kernel_rfl) (by kernel_rfl) (by kernel_rfl) (fun _ _ _ h => h) (Or.inl ⟨by rfl, ?_⟩) hH3 ?_
  rotate_left
  · intro W hW
    obtain ⟨z1, z2⟩ := hW
    first | (go_simp; done) | (go_simp; with_reducible rfl)
  try simp only [List.getElem_toArray, List.getElem_cons_succ, List.getElem_cons_zero, Act.put, List.setIfInBounds_toArray, List.set_cons_zero, List.set_cons_succ]
  refine wpAnyH_take (i := 12) (v := ?_) rfl (by kernel_rfl) (by kernel_rfl) (by kernel_rfl) (fun _ _ _ h => h) (Or.inl ⟨by rfl, ?_⟩) hH3 ?_
  rotate_left
  · intro W hW
    obtain ⟨z1, z2⟩ := hW
    first | (go_simp; done) | (go_simp; with_reducible rfl)
  try simp only [List.getElem_toArray, List.getElem_cons_succ, List.getElem_cons_zero, Act.put, List.setIfInBounds_toArray, List.set_cons_zero, List.set_cons_succ]
  refine wpAnyH_done (by kernel_rfl) ?_ _
  have hcr := World.cell?_setCell_same wb ⟨w.heap.size + 2, 0, none⟩ (.slice a1 h.length c1) y1
  have HZ : Hid (NodesZ (wb.setCell ⟨w.heap.size + 2, 0, none⟩ (.slice a1 h.length c1)) w.heap.size (wb.setCell ⟨w.heap.size + 2, 0, none⟩ (.slice a1 h.length c1)).heap.size (.slice a1 h.length c1) h) := Lib.hid ((((P1'.out.below hbb (by omega)).keep (fun b o h1 h2 => hset.cell (by have := hbb.size; omega) (by omega)))).wide (by omega) (by have := hbb.size; simp; omega))
  have HBE : Hid (Below w.heap.size w (wb.setCell ⟨w.heap.size + 2, 0, none⟩ (.slice a1 h.length c1))) := Lib.hid ((B4.out.trans (hbb.mono (by omega))).setCell (by show w.heap.size ≤ w.heap.size + 2; omega) _)
  clear hset hbb hb C HSW hS0 X4 B4 P1'
  go_wp2_with fail
  exact bodyPost_ret (v := .tuple #[.agg #[.slice a1 h.length c1], .bool ok, .bool true]) (by simp [results, Tryz.results21, go_sem, hcr]) rfl ⟨a1, c1, rfl, HZ.out, HBE.out⟩

end Go.Proofs.YtabfdaofikccmaaGreat
