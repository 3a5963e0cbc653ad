/- Draws of one game that may be made of two levels, and the laws' own good games. -/
import Derived.Test.YtabfdaofikccmaaDrAll
import Derived.Laws.OwnMore
import Derived.Laws.AppendOwnNone
import Derived.Test.YtabfdaofikccmaaFmFits
import Derived.Test.YtabfdaofikccmaaOrAll
namespace Go.Proofs.Ytabfdaofikccmaa
section
open Go.RowKit
set_option linter.unusedVariables false
set_option linter.unusedSimpArgs false
/-- what a draw hands back -/
def DrawWide (w : World) (e : Ending) (w' : World) : Prop := ∃ (a : Option Addr) (c : Nat) (f : List Nz), e = .returned (.agg #[.slice a f.length c]) ∧ NodesZ w' w.heap.size w'.heap.size (.slice a f.length c) f ∧ f.length ≤ 40000 ∧ Below w.heap.size w w'
set_option maxRecDepth 100000 in
set_option maxHeartbeats 4000000 in
theorem drawFormText_calls (ao : Option Addr) (n cc : Nat) (w : World) (hc : CodeIn w (.slice ao n cc) n) (hn : n ≤ 1000000) :
    Calls Try.prog 45 #[.slice ao n cc] w (DrawWide w) := by
  have b0 : Below w.heap.size w (w.alloc (.cells #[.slice none 0 0] 28)) := (Below.refl _ _).alloc (Nat.le_refl _) _
  have z0 : (w.alloc (.cells #[.slice none 0 0] 28)).heap.size = w.heap.size + 1 := by simp
  have x0 : BoxAt (w.alloc (.cells #[.slice none 0 0] 28)) w.heap.size (.slice none 0 0) := ⟨by go_simp, by go_simp⟩
  have hc0 := hc.below b0
  have B0 := Lib.hid b0
  have X0 := Lib.hid x0
  clear hc b0 x0
  go_enter Try.func45, Try.ntmps45
  go_upto_region 1 with fail
  generalize (w.alloc (.cells #[.slice none 0 0] 28)) = w0 at z0 hc0 B0 X0 ⊢
  have hbq : Below w0.heap.size w0 (w0.alloc (.cells #[.slice ao n cc, .int .i64 0, .int .u64 0] 52)) := (Below.refl _ _).alloc (Nat.le_refl _) _
  have hzq : (w0.alloc (.cells #[.slice ao n cc, .int .i64 0, .int .u64 0] 52)).heap.size = w0.heap.size + 1 := by simp
  have CA := Lib.hid fun (W : World) (N : Nat) (hN : N ≤ 1000) (h : Cur w0 W (w.heap.size + 1) (.slice ao n cc) N) => any_draw w0 W (w.heap.size + 1) n N (.slice ao n cc) hc0 hn h 4 (by omega) (by omega)
  have CF := Lib.hid fun (W : World) (N k : Nat) (hN : N ≤ 1000) (hk : k ≤ 6) (h : Cur w0 W (w.heap.size + 1) (.slice ao n cc) N) => form_draw w0 W (w.heap.size + 1) n N (.slice ao n cc) hc0 hn h k hk (by omega)
  have CO := Lib.hid fun (W : World) (h : Cur w0 W (w.heap.size + 1) (.slice ao n cc) 0) => one_calls w0 W (w.heap.size + 1) n 0 8 (.slice ao n cc) hc0 hn h (by omega) (by omega) (by omega)
  have HC1 : Hid (Cur w0 (w0.alloc (.cells #[.slice ao n cc, .int .i64 0, .int .u64 0] 52)) (w.heap.size + 1) (.slice ao n cc) 0) := Lib.hid (by rw [← z0]; exact cur_new _ _)
  have X1 := Lib.hid (X0.out.below hbq)
  have B1 := Lib.hid (B0.out.trans (hbq.mono (by omega)))
  clear hc0 hbq B0 X0
  go_upto_region 2 with fail
  generalize (w0.alloc (.cells #[.slice ao n cc, .int .i64 0, .int .u64 0] 52)) = w1 at hzq HC1 X1 B1 ⊢
  go_wp2_with fail
  refine (CO.out _ HC1.out).mono ?_
  rintro e w2 ⟨⟨yes, rfl⟩, hC2, hg2⟩
  have HC2 := Lib.hid hC2
  have o2 := only_cur hg2
  have s2 := o2.size
  have X2 := Lib.hid (X1.out.only o2 (by omega))
  have B2 := Lib.hid (B1.out.trans (o2.below (base := w.heap.size) (by omega) (fun g e => by omega)))
  clear hC2 hg2 o2 HC1 X1 B1 CO
  cases yes with
  | false =>
    have C := Lib.hid (CA.out _ _ (by omega) HC2.out)
    go_wp2_with fail
    refine C.out.mono ?_
    rintro e w3 ⟨a, c, f, rfl, hz, hl, _, ho⟩
    have s3 := ho.size
    obtain ⟨d1, z1⟩ := X2.out.only ho (by omega)
    have hset : Only w3 (w3.setCell ⟨w.heap.size, 0, none⟩ (.slice a f.length c)) (fun b => b = w.heap.size) := Only.of_set (F := fun b => b = w.heap.size) _ rfl
    have HZ : Hid (NodesZ (w3.setCell ⟨w.heap.size, 0, none⟩ (.slice a f.length c)) w.heap.size (w3.setCell ⟨w.heap.size, 0, none⟩ (.slice a f.length c)).heap.size (.slice a f.length c) f) := Lib.hid ((hz.keep (fun b o h1 h2 => hset.cell h2 (by omega))).wide (by omega) (by simp))
    have HBE : Hid (Below w.heap.size w (w3.setCell ⟨w.heap.size, 0, none⟩ (.slice a f.length c))) := Lib.hid ((B2.out.trans (ho.below (by omega) (fun g e => by omega))).setCell (Nat.le_refl _) _)
    have hcr := World.cell?_setCell_same w3 ⟨w.heap.size, 0, none⟩ (.slice a f.length c) d1
    clear hz ho hset C HC2 X2 B2 CA CF
    go_wp2_with fail
    exact bodyPost_ret (v := .agg #[.slice a f.length c]) (by simp [results, Try.results45, go_sem, hcr]) rfl ⟨a, c, f, rfl, HZ.out, by omega, HBE.out⟩
  | true =>
    clear CA
    have C := Lib.hid (CF.out _ _ 5 (by omega) (by omega) HC2.out)
    go_wp2_with fail
    refine C.out.mono ?_
    rintro e w3 ⟨u1, f1, rfl, hd1, ft1, fl1, hC3, o3⟩
    have s3 := o3.size
    have X3 := Lib.hid (X2.out.only o3 (by omega))
    have B3 := Lib.hid (B2.out.trans (o3.below (base := w.heap.size) (by omega) (fun g e => by omega)))
    have HC3 := Lib.hid hC3
    have D1 := Lib.hid (hd1.mono (show w.heap.size + 2 ≤ _ by omega))
    have F1 := Lib.hid ft1
    clear hd1 hC3 o3 HC2 X2 B2 C ft1
    have C := Lib.hid (CF.out _ _ 6 (by omega) (by omega) HC3.out)
    go_wp2_with fail
    refine C.out.mono ?_
    rintro e w4 ⟨u2, f2, rfl, hd2, ft2, fl2, hC4, o4⟩
    have s4 := o4.size
    have SF4 : SetF (w.heap.size + 2) w4 [u1, u2] [f1, f2] := setF_two (D1.out.only (Y := fun _ => False) o4 (fun b h1 h2 h3 => ⟨by omega, id⟩)).nodesZ (hd2.mono (show w.heap.size + 2 ≤ _ by omega)).nodesZ
    have hal : Below w4.heap.size w4 (w4.alloc (.cells [u1, u2].toArray 28)) := (Below.refl _ _).alloc (Nat.le_refl _) _
    have hz4 : (w4.alloc (.cells [u1, u2].toArray 28)).heap.size = w4.heap.size + 1 := by simp
    have FL4 := Lib.hid (formsZ_lit (W := w4) (lo := w.heap.size + 2) [u1, u2] [f1, f2] 28 rfl (by omega) (by simp) SF4)
    have X4 := Lib.hid ((X3.out.only o4 (by omega)).below hal)
    have B4 := Lib.hid ((B3.out.trans (o4.below (base := w.heap.size) (by omega) (fun g e => by omega))).trans (hal.mono (by omega)))
    have HC4 := Lib.hid (hC4.below hal)
    have F2 := Lib.hid ft2
    clear hd2 hC4 o4 HC3 X3 B3 C ft2 SF4 hal D1
    have C := Lib.hid (CF.out _ _ 6 (by omega) (by omega) HC4.out)
    go_wp2_with fail
    refine C.out.mono ?_
    rintro e w5 ⟨u3, f3, rfl, hd3, ft3, fl3, hC5, o5⟩
    have s5 := o5.size
    rw [hz4] at s5
    have SF5 : SetF (w.heap.size + 2) w5 [u3] [f3] := setF_one (hd3.mono (show w.heap.size + 2 ≤ _ by omega)).nodesZ
    have hal : Below w5.heap.size w5 (w5.alloc (.cells [u3].toArray 28)) := (Below.refl _ _).alloc (Nat.le_refl _) _
    have FL5 := Lib.hid (formsZ_lit (W := w5) (lo := w.heap.size + 2) [u3] [f3] 28 rfl (by omega) (by simp) SF5)
    have hz5 : (w5.alloc (.cells [u3].toArray 28)).heap.size = w5.heap.size + 1 := by simp
    have X5 := Lib.hid ((X4.out.only o5 (by omega)).below hal)
    have B5 := Lib.hid ((B4.out.trans (o5.below (base := w.heap.size) (by omega) (fun g e => by omega))).trans (hal.mono (by omega)))
    have FL4' := Lib.hid (((FL4.out.only (by omega) o5 (fun b h1 h2 => by omega)).below hal (by omega)))
    have tl : totL [f1, f2] + totL [f3] ≤ 39936 := by
      have e5 := deepN_five
      have e6 := deepN_six
      simp [totL]
      omega
    have hM := made_fit (fit_two F1.out F2.out) (fit_one ft3) (by simp) (by simp)
    have C := Lib.hid (l3MakeL_calls _ _ [f1, f2] [f3] _ _ _ _ _ (by omega) (by omega) FL4'.out FL5.out (fit_two F1.out F2.out) (fit_one ft3) (by simp) (by simp) (by omega))
    have hfl : (formM (mkD [f1, f2] [f3])).length ≤ 40000 := by have := hM.2; omega
    clear hM FL4 FL4' FL5 F1 F2 ft3 hd3 hC5 o5 SF5 hal X4 B4 CF HC4
    go_wp2_with fail
    refine C.out.mono ?_
    rintro e w6 ⟨v, rfl, hv6, hb6⟩
    have hD := DrF.new hv6 (fun _ => False) (fun _ h => h.elim)
    obtain ⟨a6, c6, rfl⟩ := hD.shape
    have hz := hD.nodesZ
    rw [← List.length_map (f := upN)] at hz ⊢
    obtain ⟨F, hF⟩ : ∃ F, (formM (mkD [f1, f2] [f3])).map upN = F := ⟨_, rfl⟩
    have hFl : F.length ≤ 40000 := by rw [← hF, List.length_map]; exact hfl
    rw [hF] at hz ⊢
    have s6 := hb6.size
    obtain ⟨d1, z1⟩ := X5.out.below hb6
    have hset : Only w6 (w6.setCell ⟨w.heap.size, 0, none⟩ (.slice a6 F.length c6)) (fun b => b = w.heap.size) := Only.of_set (F := fun b => b = w.heap.size) _ rfl
    have HZ : Hid (NodesZ (w6.setCell ⟨w.heap.size, 0, none⟩ (.slice a6 F.length c6)) w.heap.size (w6.setCell ⟨w.heap.size, 0, none⟩ (.slice a6 F.length c6)).heap.size (.slice a6 F.length c6) F) := Lib.hid ((hz.keep (fun b o h1 h2 => hset.cell h2 (by omega))).wide (by omega) (by simp))
    have HBE : Hid (Below w.heap.size w (w6.setCell ⟨w.heap.size, 0, none⟩ (.slice a6 F.length c6))) := Lib.hid ((B5.out.trans (hb6.mono (by omega))).setCell (Nat.le_refl _) _)
    have hcr := World.cell?_setCell_same w6 ⟨w.heap.size, 0, none⟩ (.slice a6 F.length c6) d1
    clear hz hb6 hset C hv6 hD X5 B5 hF tl
    go_wp2_with fail
    exact bodyPost_ret (v := .agg #[.slice a6 F.length c6]) (by simp [results, Try.results45, go_sem, hcr]) rfl ⟨a6, c6, F, rfl, HZ.out, hFl, HBE.out⟩
theorem goodSpec_calls (v : Value) (f : List Nz) (r : Bool) (hr : Hid (goodB f = r)) (w : World) (lo hi : Nat) (hh : hi ≤ w.heap.size) (hv : NodesZ w lo hi v f) :
    Calls Try.prog 46 #[.agg #[v]] w fun e w' => e = .returned (.bool r) ∧ Below w.heap.size w w' := by
  have HB0 := Lib.hid fun o => show Below w.heap.size w (w.alloc o) from (Below.refl _ _).alloc (Nat.le_refl _) _
  have C := Lib.hid fun (W : World) (hW : Below w.heap.size w W) => goodS_calls v f W lo hi (Nat.le_trans hh hW.size) (hv.below hW hh)
  have HR := hr.out
  clear hv hr
  go_enter Try.func46, Try.ntmps46
  go_wp2_with fail
  refine (C.out _ (HB0.out _)).mono ?_
  rintro e w4 ⟨rfl, hb4⟩
  rw [HR]
  have HB4 := Lib.hid (Below.trans (HB0.out _) (hb4.mono (by simp)))
  clear hb4 C
  go_wp2_with fail
  go_ret
  exact ⟨rfl, HB4.out⟩
/-- what the laws' own games are -/
def GoodPost (w : World) (e : Ending) (w' : World) : Prop := ∃ (a : Option Addr) (c : Nat) (f : List Nz), e = .returned (.agg #[.slice a f.length c]) ∧ NodesZ w' w.heap.size w'.heap.size (.slice a f.length c) f ∧ goodB f = true ∧ f.length ≤ 30 ∧ Below w.heap.size w w'
end

section
open Go.RowKit
set_option linter.unusedVariables false
set_option linter.unusedSimpArgs false
set_option maxRecDepth 100000 in
set_option maxHeartbeats 4000000 in
theorem vForm_calls (ao : Option Addr) (n cc : Nat) (w : World) (hc : CodeIn w (.slice ao n cc) n) (hn : n ≤ 1000000) :
    Calls Try.prog 19 #[.slice ao n cc] w (GoodPost w) := by
  have b0 : Below w.heap.size w (w.alloc (.cells #[.slice none 0 0] 28)) := (Below.refl _ _).alloc (Nat.le_refl _) _
  have z0 : (w.alloc (.cells #[.slice none 0 0] 28)).heap.size = w.heap.size + 1 := by simp
  have x0 : BoxAt (w.alloc (.cells #[.slice none 0 0] 28)) w.heap.size (.slice none 0 0) := ⟨by go_simp, by go_simp⟩
  have C := Lib.hid (drawFormText_calls ao n cc _ (hc.below b0) hn)
  have B0 := Lib.hid b0
  have X0 := Lib.hid x0
  clear hc b0 x0 hn
  go_enter Try.func19, Try.ntmps19
  go_upto_region 1 with fail
  generalize (w.alloc (.cells #[.slice none 0 0] 28)) = w0 at z0 C B0 X0 ⊢
  go_wp2_with fail
  refine C.out.mono ?_
  rintro e w1 ⟨a, c, f, rfl, hz, hl, hb⟩
  have s1 := hb.size
  have hal : Below w1.heap.size w1 (w1.alloc (.cells #[.slice a f.length c] 28)) := (Below.refl _ _).alloc (Nat.le_refl _) _
  have k1 : (w1.alloc (.cells #[.slice a f.length c] 28)).cell? ⟨w1.heap.size, 0, none⟩ = some (.slice a f.length c) := by go_simp
  have hz2 := hz.below hal (Nat.le_refl _)
  have hbx : w1.heap.size < (w1.alloc (.cells #[.slice a f.length c] 28)).heap.size := by simp
  have X2 := Lib.hid ((X0.out.below hb).below hal)
  have B2 := Lib.hid ((B0.out.trans (hb.mono (by omega))).trans (hal.mono (by omega)))
  clear hz hb hal C X0 B0
  go_upto_region 2 with fail
  generalize (w1.alloc (.cells #[.slice a f.length c] 28)) = w2 at k1 hz2 hbx X2 B2 ⊢
  generalize w1.heap.size = B at k1 hz2 hbx s1 ⊢
  obtain ⟨r, hr⟩ : ∃ r, goodB f = r := ⟨_, rfl⟩
  have CG := Lib.hid (goodSpec_calls _ f r (Lib.hid hr) w2 _ _ (by omega) hz2)
  have HZ2 := Lib.hid hz2
  have HR := Lib.hid hr
  clear hz2 hr
  go_wp2_with fail
  refine CG.out.mono ?_
  rintro e w3 ⟨rfl, hb3⟩
  have s3 := hb3.size
  have k3 := box_keep k1 hb3
  have X3 := Lib.hid (X2.out.below hb3)
  have B3 := Lib.hid (B2.out.trans (hb3.mono B2.out.size))
  have HZ3 := Lib.hid (HZ2.out.below hb3 (by omega))
  clear hb3 CG X2 B2 HZ2 k1
  by_cases hgo : r = true ∧ f.length ≤ 30
  · obtain ⟨rfl, h30⟩ := hgo
    have h3 : ¬ (30 : Int) < f.length := by omega
    have h3' : ((f.length : Int) ≤ 30) := by omega
    obtain ⟨d1, z1⟩ := X3.out
    have hset : Only w3 (w3.setCell ⟨w.heap.size, 0, none⟩ (.slice a f.length c)) (fun b => b = w.heap.size) := Only.of_set (F := fun b => b = w.heap.size) _ rfl
    have HZ : Hid (NodesZ (w3.setCell ⟨w.heap.size, 0, none⟩ (.slice a f.length c)) w.heap.size (w3.setCell ⟨w.heap.size, 0, none⟩ (.slice a f.length c)).heap.size (.slice a f.length c) f) := Lib.hid ((HZ3.out.keep (fun b o h1 h2 => hset.cell (by omega) (by omega))).wide (by omega) (by simp; omega))
    have HBE : Hid (Below w.heap.size w (w3.setCell ⟨w.heap.size, 0, none⟩ (.slice a f.length c))) := Lib.hid (B3.out.setCell (Nat.le_refl _) _)
    have hcr := World.cell?_setCell_same w3 ⟨w.heap.size, 0, none⟩ (.slice a f.length c) d1
    clear hset HZ3 X3 B3
    go_wp2_with fail
    exact bodyPost_ret (v := .agg #[.slice a f.length c]) (by simp [results, Try.results19, go_sem, hcr]) rfl ⟨a, c, f, rfl, HZ.out, HR.out, h30, HBE.out⟩
  · have CZ : Hid (∀ W : World, Below w3.heap.size w3 W → Calls Try.prog 47 #[] W fun e w' => ∃ a c, e = .returned (.agg #[.slice a 1 c]) ∧ NodesZ w' W.heap.size w'.heap.size (.slice a 1 c) [([], [])] ∧ Below W.heap.size W w') := Lib.hid (fun W _ => vZero_calls W)
    have tail : ∀ w4 : World, Hid (∀ az cz, NodesZ w4 w3.heap.size w4.heap.size (.slice az 1 cz) [([], [])] → Below w3.heap.size w3 w4 → NodesZ (w4.setCell ⟨w.heap.size, 0, none⟩ (.slice az 1 cz)) w.heap.size (w4.setCell ⟨w.heap.size, 0, none⟩ (.slice az 1 cz)).heap.size (.slice az 1 cz) [([], [])] ∧ Below w.heap.size w (w4.setCell ⟨w.heap.size, 0, none⟩ (.slice az 1 cz)) ∧ BoxAt w4 w.heap.size (.slice none 0 0)) := fun w4 => Lib.hid (fun az cz hz hb => by
      have hset : Only w4 (w4.setCell ⟨w.heap.size, 0, none⟩ (.slice az 1 cz)) (fun b => b = w.heap.size) := Only.of_set (F := fun b => b = w.heap.size) _ rfl
      have hw := B3.out.size
      exact ⟨(hz.keep (fun b o h1 h2 => hset.cell h2 (by omega))).wide (by omega) (by simp), (B3.out.trans (hb.mono hw)).setCell (Nat.le_refl _) _, X3.out.below hb⟩)
    have hcase : r = false ∨ (r = true ∧ (30 : Int) < f.length) := by
      cases r with
      | false => exact Or.inl rfl
      | true => exact Or.inr ⟨rfl, by have : ¬ f.length ≤ 30 := fun h => hgo ⟨rfl, h⟩; omega⟩
    clear hgo HR HZ3 X3 B3
    rcases hcase with rfl | ⟨rfl, h3⟩
    · go_wp2_with fail
      refine (CZ.out _ (Below.refl _ _)).mono ?_
      rintro e w4 ⟨az, cz, rfl, hz, hb⟩
      obtain ⟨t1, t2, d1, z1⟩ := (tail w4).out az cz hz hb
      have T1 := Lib.hid t1
      have T2 := Lib.hid t2
      have hcr := World.cell?_setCell_same w4 ⟨w.heap.size, 0, none⟩ (.slice az 1 cz) d1
      clear hz hb t1 t2 CZ tail
      go_wp2_with fail
      exact bodyPost_ret (v := .agg #[.slice az 1 cz]) (by simp [results, Try.results19, go_sem, hcr]) rfl ⟨az, cz, [([], [])], rfl, T1.out, good_zero, by simp, T2.out⟩
    · go_wp2_with fail
      refine (CZ.out _ (Below.refl _ _)).mono ?_
      rintro e w4 ⟨az, cz, rfl, hz, hb⟩
      obtain ⟨t1, t2, d1, z1⟩ := (tail w4).out az cz hz hb
      have T1 := Lib.hid t1
      have T2 := Lib.hid t2
      have hcr := World.cell?_setCell_same w4 ⟨w.heap.size, 0, none⟩ (.slice az 1 cz) d1
      clear hz hb t1 t2 CZ tail
      go_wp2_with fail
      exact bodyPost_ret (v := .agg #[.slice az 1 cz]) (by simp [results, Try.results19, go_sem, hcr]) rfl ⟨az, cz, [([], [])], rfl, T1.out, good_zero, by simp, T2.out⟩
end

end Go.Proofs.Ytabfdaofikccmaa
