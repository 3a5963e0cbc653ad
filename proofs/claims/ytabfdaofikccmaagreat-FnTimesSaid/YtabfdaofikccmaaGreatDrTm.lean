/- A draw of a number and a game. -/
import Derived.Test.YtabfdaofikccmaaGreatDrAll
namespace Go.Proofs.YtabfdaofikccmaaGreat
open Go.RowKit
set_option linter.unusedVariables false
set_option linter.unusedSimpArgs false

/-- what a draw of a number and a game hands back -/
def DrawInt (w : World) (e : Ending) (w' : World) : Prop := ∃ (k : Int) (a : Option Addr) (c : Nat) (f : List Nz), e = .returned (.tuple #[.int .i64 k, .agg #[.slice a f.length c]]) ∧ (-20 ≤ k ∧ k ≤ 20) ∧ NodesZ w' w.heap.size w'.heap.size (.slice a f.length c) f ∧ Below w.heap.size w w'

set_option maxRecDepth 100000 in
set_option maxHeartbeats 4000000 in
theorem drawTimes_calls (ao : Option Addr) (n cc : Nat) (w : World) (hc : CodeIn w (.slice ao n cc) n) (hn : n ≤ 1000000) :
    Calls Tryz.prog 26 #[.slice ao n cc] w (DrawInt w) := by
  have b0 : Below w.heap.size w (w.alloc (.cells #[.slice none 0 0] 26)) := (Below.refl _ _).alloc (Nat.le_refl _) _
  have z0 : (w.alloc (.cells #[.slice none 0 0] 26)).heap.size = w.heap.size + 1 := by simp
  have x0 : BoxAt (w.alloc (.cells #[.slice none 0 0] 26)) w.heap.size (.slice none 0 0) := ⟨by go_simp, by go_simp⟩
  have hc0 := hc.below b0
  have B0 := Lib.hid b0
  have X0 := Lib.hid x0
  clear hc b0 x0
  go_enter Tryz.func26, Tryz.ntmps26
  go_upto_region 1 with fail
  generalize (w.alloc (.cells #[.slice none 0 0] 26)) = w0 at z0 hc0 B0 X0 ⊢
  have hbq : Below w0.heap.size w0 (w0.alloc (.cells #[.slice ao n cc, .int .i64 0, .int .u64 0] 75)) := (Below.refl _ _).alloc (Nat.le_refl _) _
  have hzq : (w0.alloc (.cells #[.slice ao n cc, .int .i64 0, .int .u64 0] 75)).heap.size = w0.heap.size + 1 := by simp
  have CA := Lib.hid fun (W : World) (N : Nat) (hN : N ≤ 1000) (h : Cur w0 W (w.heap.size + 1) (.slice ao n cc) N) => any_draw w0 W (w.heap.size + 1) n N (.slice ao n cc) hc0 hn h 1 (by omega) (by omega)
  have CO := Lib.hid fun (W : World) (h : Cur w0 W (w.heap.size + 1) (.slice ao n cc) 0) => one_calls w0 W (w.heap.size + 1) n 0 8 (.slice ao n cc) hc0 hn h (by omega) (by omega) (by omega)
  have CP := Lib.hid fun (W : World) (N m : Nat) (hN : N ≤ 1000) (h1 : 1 ≤ m) (h2 : m ≤ 1000) (h : Cur w0 W (w.heap.size + 1) (.slice ao n cc) N) => pick_calls w0 W (w.heap.size + 1) n N m (.slice ao n cc) hc0 hn h (by omega) h1 (by omega)
  have CM := Lib.hid fun (W : World) (N : Nat) (hN : N ≤ 1000) (h : Cur w0 W (w.heap.size + 1) (.slice ao n cc) N) => among_lit w0 W (w.heap.size + 1) n N (.slice ao n cc) [12, -12, 13, -13] #[.int .i64 12, .int .i64 (-12), .int .i64 13, .int .i64 (-13)] rfl 4 rfl hc0 hn h (by omega) (by simp) (by simp)
  have HC1 : Hid (Cur w0 (w0.alloc (.cells #[.slice ao n cc, .int .i64 0, .int .u64 0] 75)) (w.heap.size + 1) (.slice ao n cc) 0) := Lib.hid (by rw [← z0]; exact cur_new _ _)
  have X1 := Lib.hid (X0.out.below hbq)
  have B1 := Lib.hid (B0.out.trans (hbq.mono (by omega)))
  clear hc0 hbq B0 X0
  go_upto_region 2 with fail
  generalize (w0.alloc (.cells #[.slice ao n cc, .int .i64 0, .int .u64 0] 75)) = w1 at hzq HC1 X1 B1 ⊢
  go_wp2_with fail
  refine (CO.out _ HC1.out).mono ?_
  rintro e w2 ⟨⟨yes, rfl⟩, hC2, hg2⟩
  have HC2 := Lib.hid hC2
  have o2 := only_cur hg2
  have s2 := o2.size
  have X2 := Lib.hid (X1.out.only o2 (by omega))
  have B2 := Lib.hid (B1.out.trans (o2.below (base := w.heap.size) (by omega) (fun g e => by omega)))
  have sB := B2.out.size
  clear hC2 hg2 o2 HC1 X1 B1 CO
  cases yes with
  | false =>
    go_wp2_with fail
    refine (CP.out _ _ 7 (by omega) (by omega) (by omega) HC2.out).mono ?_
    rintro e w3 ⟨⟨r, hr, rfl⟩, hC3, hg3⟩
    have i1 : IntKind.i64.wrap ((r : Int) - 3) = (r : Int) - 3 := by rw [IntWalk.i64_in _ (by omega)]
    have HC3 := Lib.hid hC3
    have o3 := only_cur hg3
    have s3 := o3.size
    have X3 := Lib.hid (X2.out.only o3 (by omega))
    have B3 := Lib.hid (B2.out.trans (o3.below (base := w.heap.size) (by omega) (fun g e => by omega)))
    clear hC3 hg3 o3 HC2 X2 B2 CM CP
    have C := Lib.hid (CA.out _ _ (by omega) HC3.out)
    go_wp2_with fail
    refine C.out.mono ?_
    rintro e w4 ⟨a, c, f, rfl, hz, hl, _, ho⟩
    have s4 := ho.size
    obtain ⟨d1, z1⟩ := X3.out.only ho (by omega)
    have hset : Only w4 (w4.setCell ⟨w.heap.size, 0, none⟩ (.slice a f.length c)) (fun b => b = w.heap.size) := Only.of_set (F := fun b => b = w.heap.size) _ rfl
    have HZ : Hid (NodesZ (w4.setCell ⟨w.heap.size, 0, none⟩ (.slice a f.length c)) w.heap.size (w4.setCell ⟨w.heap.size, 0, none⟩ (.slice a f.length c)).heap.size (.slice a f.length c) f) := Lib.hid ((hz.keep (fun b o h1 h2 => hset.cell h2 (by omega))).wide (by omega) (by simp))
    have HBE : Hid (Below w.heap.size w (w4.setCell ⟨w.heap.size, 0, none⟩ (.slice a f.length c))) := Lib.hid ((B3.out.trans (ho.below (by omega) (fun g e => by omega))).setCell (Nat.le_refl _) _)
    have hcr := World.cell?_setCell_same w4 ⟨w.heap.size, 0, none⟩ (.slice a f.length c) d1
    clear hz ho hset C HC3 X3 B3 CA
    go_wp2_with fail
    exact bodyPost_ret (v := .tuple #[.int .i64 ((r : Int) - 3), .agg #[.slice a f.length c]]) (by simp [results, Tryz.results26, go_sem, hcr]) rfl ⟨(r : Int) - 3, a, c, f, rfl, by omega, HZ.out, HBE.out⟩
  | true =>
    clear CA
    have hbd : Below w2.heap.size w2 w2.drew := below_drewN (Below.refl _ _) 1
    have cd := HC2.out.below hbd
    have Xd := Lib.hid (X2.out.below hbd)
    have Bd := Lib.hid (B2.out.trans (hbd.mono (by omega)))
    have CM2 := Lib.hid (CM.out _ _ (by omega) cd)
    have zd : w2.drew.heap.size = w2.heap.size := by simp
    clear cd hbd X2 B2 HC2 CM
    go_upto_region 3 with fail
    go_wp2_with fail
    refine wp_region_held_drew (S := fun _ => True) (by kernel_rfl) trivial (fun hHeld => ?_)
    refine wpAnyH_take (i := 0) (v := ?_) rfl (by kernel_rfl) (by kernel_rfl) (by kernel_rfl) (fun _ _ _ h => h) (Or.inl ⟨by rfl, ?_⟩) hHeld ?_
    rotate_left
    · intro W hW
      first | (go_simp; done) | (go_simp; with_reducible rfl)
    try simp only [List.getElem_toArray, List.getElem_cons_succ, List.getElem_cons_zero, Act.put, List.setIfInBounds_toArray, List.set_cons_zero, List.set_cons_succ]
    refine wpAnyH_take (i := 4) (v := ?_) rfl (by kernel_rfl) (by kernel_rfl) (by kernel_rfl) (fun _ _ _ h => h) (Or.inl ⟨by rfl, ?_⟩) hHeld ?_
    rotate_left
    · intro W hW
      first | (go_simp; done) | (go_simp; with_reducible rfl)
    try simp only [List.getElem_toArray, List.getElem_cons_succ, List.getElem_cons_zero, Act.put, List.setIfInBounds_toArray, List.set_cons_zero, List.set_cons_succ]
    refine wpAnyH_ready (rs := [1]) (by kernel_rfl) (by simp) ?_
    refine AllReadyH.cons rfl (fun K hK => ?_) AllReadyH.nil
    go_simp
    refine hK.out _ _ trivial (fun hH1 => ?_)
    clear hK K
    try simp only [List.getElem_toArray, List.getElem_cons_succ, List.getElem_cons_zero, Act.put, List.setIfInBounds_toArray, List.set_cons_zero, List.set_cons_succ]
    refine wpAnyH_ready (rs := [2]) (by kernel_rfl) (by simp) ?_
    refine AllReadyH.cons rfl (fun K hK => ?_) AllReadyH.nil
    go_simp
    go_at_call 71
    refine CM2.out.mono ?_
    rintro e w3 ⟨⟨x, hx, rfl⟩, hC3, hg3⟩
    have hxb : -20 ≤ x ∧ x ≤ 20 := by simp at hx; omega
    have HC3 := Lib.hid hC3
    have o3 := only_cur hg3
    have s3 := o3.size
    have X3 := Lib.hid (Xd.out.only o3 (by omega))
    have B3 := Lib.hid (Bd.out.trans (o3.below (base := w.heap.size) (by omega) (fun g e => by omega)))
    clear hC3 hg3 o3 hx CM2 Xd Bd
    go_wp2_with fail
    refine hK.out _ _ trivial (fun hH2 => ?_)
    clear hK K
    try simp only [List.getElem_toArray, List.getElem_cons_succ, List.getElem_cons_zero, Act.put, List.setIfInBounds_toArray, List.set_cons_zero, List.set_cons_succ]
    refine wpAnyH_ready (rs := [3]) (by kernel_rfl) (by simp) ?_
    refine AllReadyH.cons rfl (fun K hK => ?_) AllReadyH.nil
    go_simp
    have CS := Lib.hid (small_calls w3)
    go_at_call 72
    refine CS.out.mono ?_
    rintro e w4 ⟨g, us, rfl, hrow, hlen, hdr, hb4⟩
    have HROW := Lib.hid hrow
    have HDR := Lib.hid (And.intro hlen hdr)
    have HC4 := Lib.hid (HC3.out.below hb4)
    have X4 := Lib.hid (X3.out.below hb4)
    have B4 := Lib.hid (B3.out.trans (hb4.mono (by omega)))
    have s4 := hb4.size
    clear hrow hlen hdr hb4 HC3 X3 B3 CS
    go_wp2_with fail
    refine hK.out _ _ trivial (fun hH3 => ?_)
    clear hK K
    try simp only [List.getElem_toArray, List.getElem_cons_succ, List.getElem_cons_zero, Act.put, List.setIfInBounds_toArray, List.set_cons_zero, List.set_cons_succ]
    refine wpAnyH_ready (rs := [5]) (by kernel_rfl) (by simp) ?_
    refine AllReadyH.cons rfl (fun K hK => ?_) AllReadyH.nil
    go_simp
    go_at_call 73
    refine (CP.out _ _ 4 (by omega) (by omega) (by omega) HC4.out).mono ?_
    rintro e w5 ⟨⟨r, hr, rfl⟩, hC5, hg5⟩
    have o5 := only_cur hg5
    have s5 := o5.size
    have hglt := World.ownsRow.lt HROW.out g rfl
    obtain ⟨u, hu⟩ : ∃ u, us[r]? = some u := ⟨_, List.getElem?_eq_getElem (by rw [HDR.out.1]; omega)⟩
    obtain ⟨f, hf⟩ : ∃ f, smallL[r]? = some f := ⟨_, List.getElem?_eq_getElem (by simp only [smallL, List.length_cons, List.length_nil]; omega)⟩
    have hD := HDR.out.2 r u f hu hf
    obtain ⟨au, cu, hsh⟩ := hD.shape
    subst hsh
    have hn4 := hD.nodesZ
    obtain ⟨G, hG⟩ : ∃ G, f.map upN = G := ⟨_, rfl⟩
    have hfG : f.length = G.length := by rw [← hG, List.length_map]
    rw [hG] at hn4
    rw [hfG] at hn4 hu
    have hcell : w5.cell? ⟨g, r, none⟩ = some (.slice au G.length cu) := (o5.cell (by omega) (by omega)).trans (by rw [World.ownsRow.cellAt HROW.out r (by omega)]; exact hu)
    have HZ5 := Lib.hid ((hn4.keep (fun b o h1 h2 => o5.cell (by omega) (by omega))).wide (lo' := w3.heap.size) (Nat.le_refl _) (hi' := w5.heap.size) s5)
    obtain ⟨x5, y5⟩ := X4.out.only o5 (by omega)
    have B5 := Lib.hid (B4.out.trans (o5.below (base := w.heap.size) (by omega) (fun g e => by omega)))
    have q0 : (0 : Int) ≤ r := by omega
    have q1 : (r : Int) < 9 := by omega
    clear hC5 hg5 hn4 hG hfG hD hu hf HROW HDR HC4 X4 B4 CP
    go_wp2_with fail
    refine hK.out _ _ trivial (fun hH5 => ?_)
    clear hK K
    try simp only [List.getElem_toArray, List.getElem_cons_succ, List.getElem_cons_zero, Act.put, List.setIfInBounds_toArray, List.set_cons_zero, List.set_cons_succ]
    refine wpAnyH_take (i := 6) (v := ?_) rfl (by kernel_rfl) (by kernel_rfl) (by kernel_rfl) (fun _ _ _ h => h) (Or.inl ⟨by rfl, ?_⟩) hH5 ?_
    rotate_left
    · intro W hW
      first | (go_simp; done) | (go_simp; with_reducible rfl)
    try simp only [List.getElem_toArray, List.getElem_cons_succ, List.getElem_cons_zero, Act.put, List.setIfInBounds_toArray, List.set_cons_zero, List.set_cons_succ]
    refine wpAnyH_take (i := 8) (v := ?_) rfl (by kernel_rfl) (by kernel_rfl) (by kernel_rfl) (fun _ _ _ h => h) (Or.inl ⟨by rfl, ?_⟩) hH5 ?_
    rotate_left
    · intro W hW
      first | (go_simp; done) | (go_simp; with_reducible rfl)
    try simp only [List.getElem_toArray, List.getElem_cons_succ, List.getElem_cons_zero, Act.put, List.setIfInBounds_toArray, List.set_cons_zero, List.set_cons_succ]
    refine wpAnyH_ready (rs := [7]) (by kernel_rfl) (by simp) ?_
    refine AllReadyH.cons rfl (fun K hK => ?_) AllReadyH.nil
    go_simp
    refine hK.out _ _ trivial (fun hH7 => ?_)
    clear hK K
    try simp only [List.getElem_toArray, List.getElem_cons_succ, List.getElem_cons_zero, Act.put, List.setIfInBounds_toArray, List.set_cons_zero, List.set_cons_succ]
    refine wpAnyH_ready (rs := [9]) (by kernel_rfl) (by simp) ?_
    refine AllReadyH.cons rfl (fun K hK => ?_) AllReadyH.nil
    go_simp
    refine hK.out _ _ trivial (fun hH9 => ?_)
    clear hK K
    try simp only [List.getElem_toArray, List.getElem_cons_succ, List.getElem_cons_zero, Act.put, List.setIfInBounds_toArray, List.set_cons_zero, List.set_cons_succ]
    refine wpAnyH_done (by kernel_rfl) ?_ _
    have hset : Only w5 (w5.setCell ⟨w.heap.size, 0, none⟩ (.slice au G.length cu)) (fun b => b = w.heap.size) := Only.of_set (F := fun b => b = w.heap.size) _ rfl
    have HZ : Hid (NodesZ (w5.setCell ⟨w.heap.size, 0, none⟩ (.slice au G.length cu)) w.heap.size (w5.setCell ⟨w.heap.size, 0, none⟩ (.slice au G.length cu)).heap.size (.slice au G.length cu) G) := Lib.hid ((HZ5.out.keep (fun b o h1 h2 => hset.cell h2 (by omega))).wide (by omega) (by simp))
    have HBE : Hid (Below w.heap.size w (w5.setCell ⟨w.heap.size, 0, none⟩ (.slice au G.length cu))) := Lib.hid (B5.out.setCell (Nat.le_refl _) _)
    have hcr := World.cell?_setCell_same w5 ⟨w.heap.size, 0, none⟩ (.slice au G.length cu) x5
    clear hset HZ5 B5
    go_wp2_with fail
    exact bodyPost_ret (v := .tuple #[.int .i64 x, .agg #[.slice au G.length cu]]) (by simp [results, Tryz.results26, go_sem, hcr]) rfl ⟨x, au, cu, G, rfl, hxb, HZ.out, HBE.out⟩

end Go.Proofs.YtabfdaofikccmaaGreat
