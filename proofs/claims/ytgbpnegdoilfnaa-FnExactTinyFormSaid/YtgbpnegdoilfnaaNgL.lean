/- The model's l5Neg. -/
import Derived.Test.YtgbpnegdoilfnaaSmM
import Derived.Test.YtgbpnegdoilfnaaBkAt
import Derived.Deep.RegionHeld3
namespace Go.Proofs.Ytgbpnegdoilfnaa
section
open Go.RowKit
set_option linter.unusedVariables false
set_option linter.unusedSimpArgs false

set_option maxRecDepth 100000 in
set_option maxHeartbeats 8000000 in
theorem l5Neg_calls (vf : Value) (f : List Nd) (w : World) (lo hi : Nat) (hh : hi ≤ w.heap.size) (hv : NodesZ w lo hi vf (f.map upN)) (hf : Under f) (h0 : 0 < f.length) (hn : f.length ≤ 90000) (hl : ∀ nd ∈ f, nd.1.length ≤ 90000 ∧ nd.2.length ≤ 90000) :
    Calls Try.prog 65 #[.agg #[vf]] w fun e w' => ∃ v, e = .returned (.agg #[v]) ∧ NodesZ w' w.heap.size w'.heap.size v ((formM (swapN f)).map upN) ∧ Below w.heap.size w w' := by
  have HV := Lib.hid fun (W : World) (hW : Below w.heap.size w W) => hv.below hW hh
  have HF := Lib.hid hf
  have HL := Lib.hid hl
  have hfs := swapN_under hf
  have HFS := Lib.hid hfs
  have hsl := swapN_len f
  have HSL := Lib.hid hsl
  obtain ⟨aof, cof, hvs⟩ : ∃ a c, vf = .slice a f.length c := by obtain ⟨a, c, e, _⟩ := hv; exact ⟨a, c, by rw [e]; simp⟩
  subst hvs
  have e0 : ((w.alloc (.cells #[.slice aof f.length cof] 24)).alloc (.cells #[.slice none 0 0] 24)).heap.size = w.heap.size + 2 := by simp
  have hst := BkAt.start ((w.alloc (.cells #[.slice aof f.length cof] 24)).alloc (.cells #[.slice none 0 0] 24))
  rw [e0] at hst
  have HST := Lib.hid hst
  have HB0 : Hid (Below w.heap.size w ((((w.alloc (.cells #[.slice aof f.length cof] 24)).alloc (.cells #[.slice none 0 0] 24)).alloc (.cells #[.slice none 0 0, .slice none 0 0] 90)).alloc (.cells #[] 3))) :=
    Lib.hid (((((Below.refl _ _).alloc (Nat.le_refl _) _).alloc (by simp) _).alloc (by simp; omega) _).alloc (by simp; omega) _)
  clear hl hf hfs hv hst e0
  go_enter Try.func65, Try.ntmps65
  go_wp2
  go_loopw [4, 5] (fun q i wr => ∃ (k ga ca : Nat) (vn vb : Value) (vs : List (Value × Value)), k ≤ f.length ∧ i = .int .i64 k ∧ q = .slice (some ⟨ga, 0, none⟩) k ca ∧ Hid (BkAt (w.heap.size + 2) wr ((swapN f).take k) ga ca vn vb vs) ∧
      Hid (Below w.heap.size w wr) ∧ Hid (BoxAt wr (w.heap.size + 1) (.slice none 0 0)) ∧ wr.cell? ⟨w.heap.size, 0, none⟩ = some (.slice aof f.length cof)) (fun _ i _ => f.length - (intOf i).toNat)
  case atStart => exact ⟨0, w.heap.size + 2 + 1, 0, _, _, _, Nat.zero_le _, rfl, rfl, by rw [List.take_zero]; exact HST, HB0, Lib.hid ⟨by go_simp, by go_simp⟩, by go_simp⟩
  case round =>
    obtain ⟨k, ga, ca, vn, vb, vs, hk, rfl, rfl, hK, hb, hx, hbox⟩ := hrel
    clear HST HB0
    by_cases hlt : k < f.length
    · obtain ⟨nd, hnd⟩ := lt_get hlt
      obtain ⟨b, off, cc, v1, v2, e, hbh, p1, p2, i1, i2⟩ := nodes_atP (HV.out wr hb.out) hnd
      obtain ⟨q1, q2, q3⟩ := slice_inj e
      clear q2
      subst q1 q3
      have hsw : (swapN f)[k]? = some (nd.2, nd.1) := swapN_at hnd
      have HTS := Lib.hid (take_snoc' hsw)
      have htl : ((swapN f).take k).length = k := by rw [List.length_take, HSL.out]; omega
      have HTU := Lib.hid (under_take HFS.out k)
      have hnn := HL.out nd (List.mem_of_getElem? hnd)
      have hux := HF.out k nd hnd
      have hbs := hb.out.size
      have hks := hK.out.size
      have hga := hK.out.lt
      obtain ⟨P, hP⟩ : ∃ P, (swapN f).take k = P := ⟨_, rfl⟩
      rw [hP] at hK htl HTS HTU
      have C1 := Lib.hid fun (W : World) (hW : RowKit.Below wr.heap.size wr W) => hK.out.l3At_calls (by omega) W hW v2 nd.2 lo hi (by have := hW.size; omega) (i2.below hW (by omega)) hnn.2 (fun x hx => by rw [htl]; exact hux x (Or.inr hx))
      have C2 := Lib.hid fun (W : World) (hW : RowKit.Below wr.heap.size wr W) => hK.out.l3At_calls (by omega) W hW v1 nd.1 lo hi (by have := hW.size; omega) (i1.below hW (by omega)) hnn.1 (fun x hx => by rw [htl]; exact hux x (Or.inl hx))
      have C3 := Lib.hid fun (W : World) (hW : RowKit.Below wr.heap.size wr W) (vl vr : Value) (l1 h1 l2 h2 : Nat) (hh1 : h1 ≤ W.heap.size) (hh2 : h2 ≤ W.heap.size) hvl hvr => hK.out.put_calls HTU.out (by omega) W hW vl vr nd.2 nd.1 l1 h1 l2 h2 hh1 hh2 hvl hvr (fun x hx => by rw [htl]; exact hux x (Or.inr hx)) (fun x hx => by rw [htl]; exact hux x (Or.inl hx)) hnn.2 hnn.1
      have HOWN := Lib.hid hK.out.own
      rw [htl] at C1 C2 HOWN
      obtain ⟨su, hsu⟩ : ∃ su, seatAt P nd.2 nd.1 = su := ⟨_, rfl⟩
      rw [hsu] at C3
      have HSU := Lib.hid hsu
      have HTL := Lib.hid htl
      have HPP := Lib.hid hP
      have hnf := Lib.hid hK.out.nf
      have HOW := Lib.hid fun (W : World) (hW : RowKit.Below wr.heap.size wr W) => own_only HOWN.out (Only.of_below (F := fun _ => False) hW) (fun _ _ => id)
      have hbd : Hid (RowKit.Below wr.heap.size wr wr.drew) := Lib.hid (below_drewN (RowKit.Below.refl _ _) 1)
      have nb0 : Hid (¬ Foot (w.heap.size + 2) vn vb w.heap.size) := Lib.hid (fun hF => by have := (hK.out.bk.lt _ hF).1; omega)
      have nb1 : Hid (¬ Foot (w.heap.size + 2) vn vb b) := Lib.hid (fun hF => by have := (hK.out.bk.lt _ hF).1; omega)
      have hS0 : AddS w.heap.size b (off + k * 2) (.slice (some ⟨b, off, none⟩) f.length cof) v1 v2 wr.drew := ⟨hbox, p1, p2⟩
      have b0 : (0 : Int) ≤ k := by omega
      have b1 : (k : Int) < f.length := by omega
      obtain ⟨ar1, nr1, cr1, hvr1⟩ : ∃ a n c, v1 = .slice a n c := by obtain ⟨a, c, e, _⟩ := i1; exact ⟨a, _, c, e⟩
      obtain ⟨ar2, nr2, cr2, hvr2⟩ : ∃ a n c, v2 = .slice a n c := by obtain ⟨a, c, e, _⟩ := i2; exact ⟨a, _, c, e⟩
      subst hvr1 hvr2
      clear e i1 i2 hnd hsw htl hsu hP hnn hux
      go_wp2
      go_region_held3 (fun w' : World => w'.cell? ⟨w.heap.size, 0, none⟩ = some (.slice (some ⟨b, off, none⟩) f.length cof) ∧ w'.cell? ⟨b, off + k * 2, none⟩ = some (.slice ar1 nr1 cr1) ∧ w'.cell? ⟨b, off + k * 2 + 1, none⟩ = some (.slice ar2 nr2 cr2)) (first | exact hS0 | (go_split_ands; exact ⟨‹_›, ‹_›, ‹_›⟩) | (go_split_ands; exact addS_only HAPP.out (by omega) (by omega) ⟨‹_›, ‹_›, ‹_›⟩) | (go_split_ands; exact addS_below ((RowKit.Below.refl _ _).alloc (Nat.le_refl _) _) ⟨‹_›, ‹_›, ‹_›⟩) | (go_split_ands; exact addS_only ho6 nb0.out nb1.out ⟨‹_›, ‹_›, ‹_›⟩) | (go_split_ands; exact addS_below hb5 ⟨‹_›, ‹_›, ‹_›⟩) | (go_split_ands; exact addS_below hb4 ⟨‹_›, ‹_›, ‹_›⟩)) (first
        | (go_at_call 87; (with_reducible refine (C3.out w5 HB5 _ _ _ _ _ _ (Nat.le_refl _) (Nat.le_refl _) (hi1.below hb5 (Nat.le_refl _) |>.wide (Nat.le_refl _) hb5.size) hi2).mono ?_); rintro e w6 ⟨rfl, vn', vb', vs', hK6, ho6, hf6⟩)
        | (go_at_call 99; (with_reducible refine (C1.out _ hbd.out).mono ?_); rintro e w4 ⟨g1, c1, rfl, hi1, hb4⟩; have HB4 : RowKit.Below wr.heap.size wr w4 := hbd.out.trans hb4)
        | (go_at_call 99; (with_reducible refine (C2.out w4 HB4).mono ?_); rintro e w5 ⟨g2, c2, rfl, hi2, hb5⟩; have HB5 : RowKit.Below wr.heap.size wr w5 := HB4.trans (hb5.mono HB4.size); have HO6 := HOW.out w5 HB5)
        | (refine step_app_at rfl _ _ rfl (World.ownsRow.alloc (own_only HO6 ho6 (fun g e => by injection e with e; subst e; exact hnf.out)) _) rfl (B := w6.heap.size) (u := su) (by go_simp) rfl (by omega) (by simp; have := ho6.size; have := HB5.size; omega) ?_; intro v7 w7 hown7 hgrow7 hat7; have HAPP : Hid (Only _ w7 (fun g => g = ga)) := Lib.hid (Only.of_grown hgrow7 (fun g e => by injection e with e; exact e.symm))))
      all_goals
        obtain ⟨g7, c7, rfl, HK7, HO7, HB7⟩ := hK.out.next HB5 hK6 ho6 hf6 (by rw [HTL.out, HSU.out]; exact hown7) (by rw [HTL.out, HSU.out]; exact hgrow7) (by rw [HTL.out, HSU.out]; exact hat7)
        rw [HTL.out]
        have K7 : Hid (BkAt (w.heap.size + 2) w7 ((swapN f).take (k + 1)) g7 c7 vn' vb' vs') := Lib.hid (by rw [HTS.out]; exact HK7.out)
        have B7 : Hid (RowKit.Below w.heap.size w w7) := Lib.hid (hb.out.trans (HB7.out.mono (by omega)))
        have hwlt := block_of_cell hbox
        have X7 : Hid (BoxAt w7 (w.heap.size + 1) (.slice none 0 0)) := Lib.hid (hx.out.only HO7.out (fun h => by
          rcases h with h | h
          · have := (hK.out.bk.lt _ h).1; omega
          · omega))
        have hbox7 := (HO7.out.cell (o := 0) hwlt (fun h => by
          rcases h with h | h
          · exact nb0.out h
          · omega)).trans hbox
        clear hown7 hgrow7 hat7 HAPP hK6 ho6 hf6 HK7 HO7 HB7 hb hx hK hS0 hbox p1 p2
        go_wp2
        go_roundw
        case rel => exact ⟨k + 1, g7, c7, vn', vb', vs', by omega, by go_num, rfl, K7, B7, X7, hbox7⟩
        case measure => simp [intOf]; omega
    · have hkl : k = f.length := by omega
      subst hkl
      rw [show (swapN f).take f.length = swapN f from List.take_of_length_le (by rw [HSL.out]; omega)] at hK
      obtain ⟨z, hz⟩ := lt_get (l := (addF [] (swapN f)).2) (i := f.length - 1) (by rw [at_len, HSL.out]; omega)
      have HZ : Hid ((addF [] (swapN f)).2.getD ((swapN f).length - 1) 0 = z) := Lib.hid (by rw [HSL.out, List.getD_eq_getElem?_getD, hz]; rfl)
      have hbk := (addF_added [] book_nil (swapN f) HFS.out).book
      have hzl : z < (addF [] (swapN f)).1.length := by
        rw [← HZ.out]
        exact at_lt' _ HFS.out _ (by rw [HSL.out]; omega)
      have hal := (addF_len [] (swapN f)).2
      have hown := hK.out.own
      rw [HSL.out] at hown hal
      have hcz : wr.cell? ⟨ga, f.length - 1, none⟩ = some (.int .i64 (z : Int)) := by
        rw [World.ownsRow.cellAt hown (f.length - 1) (by omega), List.getElem?_map, hz]
        rfl
      have CF := Lib.hid (form_calls (w.heap.size + 2) (w.heap.size + 2) (addF [] (swapN f)).1 vn vb vs (fun g => g = ga) z wr hK.out.bk hbk hzl (by simp at hal; omega))
      have HFI := Lib.hid (form_is (swapN f))
      rw [HZ.out] at HFI
      rw [HFI.out] at CF
      obtain ⟨G, hG⟩ : ∃ G, (formM (swapN f)).map upN = G := ⟨_, rfl⟩
      rw [hG] at CF
      have HGG := Lib.hid hG
      have hn1 : IntKind.i64.wrap ((f.length : Int) - 1) = (f.length : Int) - 1 := IntWalk.i64_in _ (by omega)
      have hn2 : (0 : Int) ≤ (f.length : Int) - 1 := by omega
      have hn3 : (f.length : Int) - 1 < f.length := by omega
      have hn4 : ((f.length : Int) - 1).toNat = f.length - 1 := by omega
      have hbs := hb.out.size
      have hlt1 := block_of_cell hx.out.1
      clear hz hzl hbk hal hown hK hG
      go_wp2_with fail
      refine CF.out.mono ?_
      rintro e w5 ⟨v, rfl, hn5, hb5⟩
      obtain ⟨d5, z5⟩ := hx.out.below hb5
      have HB5 : Hid (RowKit.Below w.heap.size w (w5.setCell ⟨w.heap.size + 1, 0, none⟩ v)) := Lib.hid ((hb.out.trans (hb5.mono hbs)).setCell (by show w.heap.size ≤ w.heap.size + 1; omega) _)
      have HN : Hid (NodesZ (w5.setCell ⟨w.heap.size + 1, 0, none⟩ v) w.heap.size (w5.setCell ⟨w.heap.size + 1, 0, none⟩ v).heap.size v G) := Lib.hid ((NodesZ.keep hn5 (fun b o h1 h2 => World.cell?_setCell_other _ _ _ _ (fun e => by injection e with e _ _; omega))).wide hbs (by simp))
      have hcr := World.cell?_setCell_same w5 ⟨w.heap.size + 1, 0, none⟩ v d5
      obtain ⟨av, cv, rfl, _⟩ := (show ∃ a c, v = .slice a G.length c ∧ True from by obtain ⟨a, c, e, _⟩ := hn5; exact ⟨a, c, e, trivial⟩)
      clear hn5 hb5 CF hx hb
      go_wp2_with fail
      refine bodyPost_ret (v := .agg #[.slice av G.length cv]) (by simp [results, Try.results65, go_sem, hcr]) rfl ?_
      rw [HGG.out]
      exact ⟨_, rfl, HN.out, HB5.out⟩
end

end Go.Proofs.Ytgbpnegdoilfnaa
