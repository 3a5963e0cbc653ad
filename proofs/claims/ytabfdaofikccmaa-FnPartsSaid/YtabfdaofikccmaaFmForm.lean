/- (*spec.l3Book).form: the one form of the game at a place. -/
import Derived.Test.YtabfdaofikccmaaFmFormP
namespace Go.Proofs.Ytabfdaofikccmaa
set_option linter.unusedVariables false
set_option linter.unusedSimpArgs false
open Go.RowKit
set_option maxRecDepth 100000 in
set_option maxHeartbeats 8000000 in
theorem form_callsL (base B : Nat) (ns : List Nd) (vn vb : Value) (vs : List (Value × Value)) (X : Nat → Prop) (root : Nat) (w : World) (h : Bk base w B ns (bornsOf ns) vn vb vs X) (hbk : Book ns) (hr : root < ns.length) (hn : ns.length ≤ 90000) :
    Calls Try.prog 75 #[.pointer (some ⟨B, 0, none⟩), .int .i64 root] w fun e w' => ∃ v, e = .returned (.agg #[v]) ∧ (∃ vs, LvN w.heap.size (fun b => v.ownBlock = some b) w' v vs (fo ns root (bOf ns root + 1)).2) ∧ Below w.heap.size w w' := by
  obtain ⟨i0, hi0, hz0, hz1, hz2⟩ := info_parts infoIntA
  have hu := hbk.struct.under
  have HNR := Lib.hid fun k => reachF_is ns hu root hr k
  have HR : Hid (∀ k, needF ns root k = true → k ≤ root ∧ k < ns.length) := Lib.hid (fun k hk => by have := ((HNR.out k).1 hk).le hu; omega)
  have HS : Hid (Shut ns (fun k => needF ns root k = true)) := Lib.hid (fun k nd hk h1 x hx => (HNR.out x).2 (.opt ((HNR.out k).1 h1) hk hx))
  have HFL := Lib.hid fun n => form_len (needF ns root) ns hbk root HS.out HR.out n
  have HFA := Lib.hid fun n => form_at (needF ns root) (bOf ns) ns root n
  have HAL := Lib.hid fun n => form_alen (needF ns root) (bOf ns) ns root n
  have HK0 := Lib.hid h
  have HU := Lib.hid hu
  have hbb : (bornsOf ns).length = ns.length := bornsOf_len ns
  clear h hu
  have hw0 : IntKind.i64.wrap ((root : Int) + 1) = (root : Int) + 1 := IntWalk.i64_in _ (by omega)
  have r0 : (0 : Int) ≤ root := by omega
  have r1 : (0 : Int) ≤ (root : Int) + 1 := by omega
  have r2 : ((root : Int) + 1).toNat = root + 1 := by omega
  have r3 : (root : Int) < (root : Int) + 1 := by omega
  have hB0 : Below w.heap.size w (w.alloc (.cells #[.slice none 0 0] 28)) := (Below.refl _ _).alloc (Nat.le_refl _) _
  go_enter Try.func75, Try.ntmps75
  go_wp2_with fail
  refine (reached_calls base B ns (bornsOf ns) vn vb vs X root _ (HK0.out.below hB0) HU.out hr (by omega)).mono ?_
  rintro e w2 ⟨gN, rfl, hneed, hb2⟩
  have cR : w2.cell? ⟨w.heap.size, 0, none⟩ = some (.slice none 0 0) := (bcell hb2 _ 0 (by simp)).trans (by go_simp)
  have zR : w2.frozen? ⟨w.heap.size, 0, none⟩ = false := ((bcell2 hb2).2 _ 0 (by simp)).trans (by go_simp)
  have HB2 : Hid (Below w.heap.size w w2) := Lib.hid (hB0.trans (hb2.mono (by simp)))
  have HK := Lib.hid ((HK0.out.below hB0).below hb2)
  have hz2w : w.heap.size + 1 ≤ w2.heap.size := by have := hb2.size; simp at this; exact this
  have HN := Lib.hid hneed
  have hgN := World.ownsRow.lt hneed _ rfl
  clear hneed hb2 hB0 HK0
  go_wp2_with (at_make; refine wpList_make_full _ rfl _ _ 34 rfl w2.heap.size 3 i0 (.int .i64 0) 1 Try.underlying34 hi0 hz0 hz1 _ _ _ _ (root + 1) rfl rfl (by first | rfl | (simp; done)) (by first | rfl | (simp; done)) (by rw [hz2]; omega) (by unfold maxLen; omega) (Nat.le_refl _) ?_; intro w3 hown hg; have HR3 := Lib.hid (rowI_made hown); have HB3 : Hid (Below w2.heap.size w2 w3) := Lib.hid ((Below.refl _ _).grown hg (Nat.le_refl _) (fun k hk => by cases hk)); have hgl := (World.ownsRow.lt hown _ rfl).2; clear hown hg)
  have HR30 : Hid (RowI w2.heap.size w2.heap.size (root + 1) (fo ns root 0).1 ((w3.alloc (.cells #[] 57)).alloc (.cells #[.slice (some ⟨w3.heap.size, 0, none⟩) 0 0] 28))) := Lib.hid (HR3.out.below (((Below.refl _ _).alloc (Nat.le_refl _) _).alloc (by simp) _))
  have HO30 : Hid (OutN w2.heap.size (w3.heap.size + 1) w2.heap.size ((w3.alloc (.cells #[] 57)).alloc (.cells #[.slice (some ⟨w3.heap.size, 0, none⟩) 0 0] 28)) (.slice (some ⟨w3.heap.size, 0, none⟩) 0 0) [] (fo ns root 0).2) := Lib.hid ⟨by go_simp, by go_simp, ⟨(lvN_nil rfl (by omega) _).nodes, rfl, fun j nd p hj => by simp [fo, formF] at hj⟩, by simp [Value.ownBlock], by simp [Value.ownBlock]; omega⟩
  have HB30 : Hid (Below w2.heap.size w2 ((w3.alloc (.cells #[] 57)).alloc (.cells #[.slice (some ⟨w3.heap.size, 0, none⟩) 0 0] 28))) := Lib.hid ((HB3.out.alloc (by omega) _).alloc (by simp; omega) _)
  have hbr := bOf_le ns HU.out root hr
  have HBL := Lib.hid fun k hk => bOf_le ns HU.out k hk
  clear HR3 HB3
  go_loopw [8] (fun i wr => ∃ (n : Nat) (vo : Value) (vs' : List (Value × Value)), n ≤ bOf ns root + 1 ∧ i = .int .i64 n ∧ Hid (RowI w2.heap.size w2.heap.size (root + 1) (fo ns root n).1 wr) ∧ Hid (OutN w2.heap.size (w3.heap.size + 1) w2.heap.size wr vo vs' (fo ns root n).2) ∧ Hid (Below w2.heap.size w2 wr)) (fun i _ => bOf ns root + 1 - (intOf i).toNat)
  case atStart => exact ⟨0, _, _, Nat.zero_le _, rfl, HR30, HO30, HB30⟩
  case round =>
    clear HR30 HO30 HB30
    obtain ⟨n, vo, vs', hn1, rfl, hat, hout, hb⟩ := hrel
    have HKr := Lib.hid (HK.out.below hb.out)
    have c1 := HKr.out.c1
    obtain ⟨br, hbr'⟩ := lt_get (l := bornsOf ns) (i := root) (by omega)
    obtain ⟨gb, cb, hvb, q1⟩ := HKr.out.birth hbr'
    have hbo : bOf ns root = br := by unfold bOf; rw [List.getD_eq_getElem?_getD, hbr']; rfl
    rw [hvb, hbb] at c1
    rw [hbo] at hn1 hbr
    have hrl : (root : Int) < ns.length := by omega
    clear hvb hbr'
    by_cases hnb : n ≤ br
    · have hnbi : (n : Int) ≤ br := by omega
      obtain ⟨W1, hW1⟩ : ∃ W, W = wr := ⟨_, rfl⟩
      subst hW1
      have hsz := hb.out.size
      go_wp2
      go_loopw [9, 10, 11] (fun q f k wx => ∃ (m g c g' c' : Nat) (vsl : List (Value × Value)), m ≤ root + 1 ∧ k = .int .i64 m ∧ q = .slice (some ⟨g, 0, none⟩) (lv ns root n m).1.length c ∧ f = .slice (some ⟨g', 0, none⟩) (lv ns root n m).1.length c' ∧ Hid (LvN W1.heap.size (fun _ => False) wx (.slice (some ⟨g, 0, none⟩) (lv ns root n m).1.length c) vsl (lv ns root n m).1) ∧
        Hid (wx.ownsRow W1.heap.size 3 1 (.slice (some ⟨g', 0, none⟩) (lv ns root n m).1.length c') (lv ns root n m).1.length ((lv ns root n m).2.map iv)) ∧ Hid (Below W1.heap.size W1 wx)) (fun _ _ k _ => root + 1 - (intOf k).toNat)
      case atStart => exact ⟨0, W1.heap.size, 0, W1.heap.size + 1, 0, [], Nat.zero_le _, rfl, rfl, rfl, Lib.hid (lvN_nil rfl (Nat.le_refl _) _), Lib.hid (by
          have h := World.ownsRow_lit (base := W1.heap.size) (e := 3) (size := 1) (W1.alloc (.cells #[] 57)) #[] 0 (by simp) (by unfold maxLen; omega) rfl
          rw [show (W1.alloc (.cells #[] 57)).heap.size = W1.heap.size + 1 from by simp] at h
          exact h), Lib.hid (((Below.refl _ _).alloc (Nat.le_refl _) _).alloc (by simp) _)⟩
      case round =>
        obtain ⟨m, g, c, g', c', vsl, hm, rfl, rfl, rfl, hlv, hfr, hbx⟩ := hrel
        obtain ⟨wx, hwx⟩ : ∃ W, W = wr := ⟨_, rfl⟩
        subst hwx
        by_cases hmr : m ≤ root
        · have m0 : (0 : Int) ≤ m := by omega
          have m1 : (m : Int) ≤ root := by omega
          have m2 : (m : Int) < (root : Int) + 1 := by omega
          have m3 : (m : Int) < ns.length := by omega
          have HKx := Lib.hid (HKr.out.below hbx.out)
          have c1x := HKx.out.c1
          have c0x := HKx.out.c0
          obtain ⟨bm, hbm⟩ := lt_get (l := bornsOf ns) (i := m) (by omega)
          obtain ⟨gb', cb', hvb', q2⟩ := HKx.out.birth hbm
          rw [hvb', hbb] at c1x
          have hbmo : bOf ns m = bm := by unfold bOf; rw [List.getD_eq_getElem?_getD, hbm]; rfl
          obtain ⟨nd, hnd⟩ := lt_get (l := ns) (i := m) (by omega)
          have hrlen : (reachF ns root).length = root + 1 := by unfold reachF; rw [reachD_len]; simp
          obtain ⟨om, hom⟩ := lt_get (l := reachF ns root) (i := m) (by omega)
          have hno : needF ns root m = om := by unfold needF; rw [List.getD_eq_getElem?_getD, hom]; rfl
          have q3 := (bcell hbx.out gN m (by omega)).trans ((bcell hb.out gN m hgN.2).trans (HN.out.at_ hom))
          clear hvb' hbm hom hrlen
          cases om with
          | false =>
            have HLE := Lib.hid (lv_skip (ns := ns) (root := root) (n := n) (Or.inl hno))
            clear hbmo hnd
            go_wp2
            go_roundw
            case rel => exact ⟨m + 1, g, c, g', c', vsl, by omega, by go_num, by rw [HLE.out], by rw [HLE.out], by rw [HLE.out]; exact hlv, by rw [HLE.out]; exact hfr, hbx⟩
            case measure => simp [intOf]; omega
          | true =>
            by_cases hbn : bm = n
            · subst hbn
              have hbi : ((bm : Int) != bm) = false := by simp
              have HND := Lib.hid hnd
              obtain ⟨gn, cn, ⟨p1, p2⟩, hvn, _, t1, t2, in1, in2⟩ := HKx.out.node hnd
              simp only at t1 t2 in1 in2
              rw [hvn] at c0x
              have hBlx := (HKx.out.lt B (Or.inl rfl)).2
              have hgnl := block_of_cell t1
              have HA := Lib.hid (hat.out.below hbx.out)
              have hA1 : (fo ns root bm).1.length = root + 1 := HAL.out bm
              have HAI := Lib.hid (HA.out.ints (by omega))
              have hgl0 : w2.heap.size + 1 ≤ W1.heap.size := (World.ownsRow.lt hat.out _ rfl).2
              have hxs := hbx.out.size
              have hun : ∀ x, x ∈ nd.1 ∨ x ∈ nd.2 → x < m := fun x hx => HU.out m nd hnd x hx
              have hst := hbk.struct m nd hnd
              have hl1 : nd.1.length ≤ 90000 := by have := asc_len nd.1 0 m hst.1 (fun x hx => ⟨Nat.zero_le _, hun x (Or.inl hx)⟩); omega
              have hl2 : nd.2.length ≤ 90000 := by have := asc_len nd.2 0 m hst.2.1 (fun x hx => ⟨Nat.zero_le _, hun x (Or.inr hx)⟩); omega
              have hAx : ∀ x, x < m → (fo ns root bm).1.getD x 0 ≤ 1000000 := fun x hx => by
                obtain ⟨y, hy⟩ := lt_get (l := (fo ns root bm).1) (i := x) (by omega)
                have h1 := HFA.out bm y (List.mem_of_getElem? hy)
                have h2 := HFL.out bm
                rw [List.getD_eq_getElem?_getD, hy]
                simp only [Option.getD_some]
                omega
              have C1 := Lib.hid fun (W : World) (hW : Below wx.heap.size wx W) => l3At_calls (.slice (some ⟨w2.heap.size, 0, none⟩) (root + 1) (root + 1)) p1 (fo ns root bm).1 nd.1 W w2.heap.size (w2.heap.size + 1) 0 wx.heap.size (by have := hW.size; omega) hW.size (HAI.out.below hW (by omega)) (in1.ints.below hW (Nat.le_refl _)) (by omega) (fun x hx => by have := hun x (Or.inl hx); omega)
              have C2 := Lib.hid fun (W : World) (hW : Below wx.heap.size wx W) => l3At_calls (.slice (some ⟨w2.heap.size, 0, none⟩) (root + 1) (root + 1)) p2 (fo ns root bm).1 nd.2 W w2.heap.size (w2.heap.size + 1) 0 wx.heap.size (by have := hW.size; omega) hW.size (HAI.out.below hW (by omega)) (in2.ints.below hW (Nat.le_refl _)) (by omega) (fun x hx => by have := hun x (Or.inr hx); omega)
              have S1 := Lib.hid fun (v : Value) (W : World) (lo hi : Nat) (hh : hi ≤ W.heap.size) (hv : IntsZ W lo hi v (upL (nd.1.map (fun x => (fo ns root bm).1.getD x 0)))) => sorted_calls v _ W lo hi hh hv (by simp; omega) (fun y hy => by obtain ⟨x, hx, rfl⟩ := List.mem_map.1 hy; exact hAx x (hun x (Or.inl hx)))
              have S2 := Lib.hid fun (v : Value) (W : World) (lo hi : Nat) (hh : hi ≤ W.heap.size) (hv : IntsZ W lo hi v (upL (nd.2.map (fun x => (fo ns root bm).1.getD x 0)))) => sorted_calls v _ W lo hi hh hv (by simp; omega) (fun y hy => by obtain ⟨x, hx, rfl⟩ := List.mem_map.1 hy; exact hAx x (hun x (Or.inr hx)))
              have HLP := Lib.hid (lv_put (n := bm) hno hbmo hnd)
              have HMV : Hid (movd (fun x => (fo ns root bm).1.getD x 0) nd = (sortd (nd.1.map (fun x => (fo ns root bm).1.getD x 0)), sortd (nd.2.map (fun x => (fo ns root bm).1.getD x 0)))) := Lib.hid rfl
              rw [HMV.out] at HLP
              clear HMV
              generalize hD1 : nd.1.map (fun x => (fo ns root bm).1.getD x 0) = D1 at C1 S1 HLP
              generalize hD2 : nd.2.map (fun x => (fo ns root bm).1.getD x 0) = D2 at C2 S2 HLP
              obtain ⟨pb1, po1, pc1, hp1, _⟩ := in1
              obtain ⟨pb2, po2, pc2, hp2, _⟩ := in2
              subst hp1 hp2
              have hS0 : ∀ k, (wx.drewN k).cell? ⟨B, 0, none⟩ = some (.slice (some ⟨gn, 0, none⟩) ns.length cn) ∧ (wx.drewN k).cell? ⟨gn, m * 2, none⟩ = some (.slice (some ⟨pb1, po1, none⟩) nd.1.length pc1) ∧ (wx.drewN k).cell? ⟨gn, m * 2 + 1, none⟩ = some (.slice (some ⟨pb2, po2, none⟩) nd.2.length pc2) ∧ Below wx.heap.size wx (wx.drewN k) := fun k => ⟨c0x, t1, t2, below_drewN (Below.refl _ _) k⟩
              have HS0 := Lib.hid (hS0 1)
              clear hS0 hvn hnd hbmo hno hun hst hAx hD1 hD2
              go_upto_region 12 with fail
              go_cut [12] (fun x wy => Built wx D1 D2 x wy)
              case first =>
                go_region_held3 (fun w' : World => w'.cell? ⟨B, 0, none⟩ = some (.slice (some ⟨gn, 0, none⟩) ns.length cn) ∧ w'.cell? ⟨gn, m * 2, none⟩ = some (.slice (some ⟨pb1, po1, none⟩) nd.1.length pc1) ∧ w'.cell? ⟨gn, m * 2 + 1, none⟩ = some (.slice (some ⟨pb2, po2, none⟩) nd.2.length pc2) ∧ Below wx.heap.size wx w') (first | exact HS0.out | (go_split_ands; exact ⟨‹_›, ‹_›, ‹_›, ‹_›⟩) | (go_split_ands; exact ndS_set hBlx hgnl (by omega) ⟨‹_›, ‹_›, ‹_›, ‹_›⟩) | (go_split_ands; exact ndS_re hBlx hgnl (by omega) ⟨‹_›, ‹_›, ‹_›, ‹_›⟩) | (go_split_ands; exact ndS_next hbD ⟨‹_›, ‹_›, ‹_›, ‹_›⟩) | (go_split_ands; exact ndS_next hbC ⟨‹_›, ‹_›, ‹_›, ‹_›⟩) | (go_split_ands; exact ndS_next hbB ⟨‹_›, ‹_›, ‹_›, ‹_›⟩) | (go_split_ands; exact ndS_next hbA ⟨‹_›, ‹_›, ‹_›, ‹_›⟩) | (go_split_ands; exact ndS_next ((Below.refl _ _).alloc (Nat.le_refl _) _) ⟨‹_›, ‹_›, ‹_›, ‹_›⟩)) (first
                  | (go_at_call 97; go_split_ands; (with_reducible refine (C1.out _ (by assumption)).mono ?_); rintro e wa ⟨ba, ca, rfl, hia, hba1, hba2, hbA⟩; have hzA := hbA.size; (first | have kp := box_next (box_new _) hbA | have kp := box_next (box_newd _) hbA | skip); (try simp only [World.size_alloc, World.size_drew] at hzA hba1))
                  | (go_at_call 96; go_split_ands; (first | (with_reducible refine (S1.out _ _ _ _ (Nat.le_refl _) hia).mono ?_) | (with_reducible refine (S1.out _ (wa.alloc (.cells #[.slice none 0 0, .slice none 0 0] 57)) _ wa.heap.size (by simp) (hia.below ((Below.refl wa.heap.size wa).alloc (Nat.le_refl _) (.cells #[.slice none 0 0, .slice none 0 0] 57)) (Nat.le_refl _))).mono ?_)); rintro e wb ⟨bb, ob, cb1, rfl, hib, hbb1, hbb2, hbB⟩; have hzB := hbB.size; (first | have kp := box_next kp hbB | have kp := box_next (box_new _) hbB | skip); have I1 := ints_narrow hib; (try simp only [World.size_alloc, World.size_drew] at hzB hbb1))
                  | (go_at_call 97; go_split_ands; (with_reducible refine (C2.out _ (by assumption)).mono ?_); rintro e wc ⟨bc, cc, rfl, hic, hbc1, hbc2, hbC⟩; have hzC := hbC.size; (first | have kp := box_next kp hbC | have kp := box_next (box_new _) hbC | skip); (first | have I1c := I1.below hbC (by omega) | have I1c := ints_past I1 (.cells #[.slice none 0 0, .slice none 0 0] 57) hbC hbb2); (try simp only [World.size_alloc, World.size_drew] at hzC hbc1))
                  | (go_at_call 96; go_split_ands; (first | (with_reducible refine (S2.out _ _ _ _ (Nat.le_refl _) hic).mono ?_) | (with_reducible refine (S2.out _ (wc.alloc (.cells #[.slice none 0 0, .slice none 0 0] 57)) _ wc.heap.size (by simp) (hic.below ((Below.refl wc.heap.size wc).alloc (Nat.le_refl _) (.cells #[.slice none 0 0, .slice none 0 0] 57)) (Nat.le_refl _))).mono ?_)); rintro e wd ⟨bd, od, cd, rfl, hid, hbd1, hbd2, hbD⟩; have hzD := hbD.size; (first | have kp := box_next kp hbD | have kp := box_next (box_new _) hbD | skip); (try obtain ⟨kp0, kp1, kz0, kz1⟩ := kp); have I2 := ints_narrow hid; (first | have I1d := I1c.below hbD (by omega) | have I1d := ints_past I1c (.cells #[.slice none 0 0, .slice none 0 0] 57) hbD (by omega)); (try simp only [World.size_alloc, World.size_drew] at hzD hbd1)))
                all_goals
                  rename_i hH
                  go_wp2_with fail
                  go_meet
                  first
                    | exact built_new I1d I2 (by omega) (by omega) (by omega) (by omega) _ hH.2.2.2
                    | exact built_set I1d I2 (by omega) (by omega) (by omega) (by omega) (by omega) (by omega) kp0 kp1 hH.2.2.2
              case rest =>
                obtain ⟨p, v1, v2, rfl, x1, x2, hx1, hx2, hby⟩ := hcut
                obtain ⟨wy, hwy⟩ : ∃ W, W = wc := ⟨_, rfl⟩
                subst hwy
                have hpl := block_of_cell x1
                have HLY := Lib.hid (hlv.out.below hby.out)
                have hys := hby.out.size
                have hlvl : (lv ns root bm m).1.length ≤ m := (lvl_len _ _ _ _ _ _).2
                have hlv2 : Hid ((lv ns root bm m).1.length = (lv ns root bm m).2.length) := Lib.hid (lvl_len _ _ _ _ _ _).1
                clear HS0 C1 C2 S1 S2
                generalize hxN : ((sortd D1, sortd D2) : Nd) = xN at HLP
                have hx1' : Hid (InL wx.heap.size (fun _ => False) wy v1 xN.1) := by rw [← hxN]; exact hx1
                have hx2' : Hid (InL wx.heap.size (fun _ => False) wy v2 xN.2) := by rw [← hxN]; exact hx2
                clear hx1 hx2 hxN
                go_upto_block 4 with fail
                go_cut [13] from 80 to 93 (fun i wz => ∃ j : Nat, j ≤ (lv ns root bm m).1.length ∧ i = .int .i64 j ∧ Hid (insNd (lv ns root bm m) xN m = ((lv ns root bm m).1.take j ++ xN :: (lv ns root bm m).1.drop j, (lv ns root bm m).2.take j ++ m :: (lv ns root bm m).2.drop j)) ∧ Hid (Below wy.heap.size wy wz))
                case first =>
                  go_wp2_with fail
                  go_loopw [13] (fun i wr => ∃ j : Nat, j ≤ (lv ns root bm m).1.length ∧ i = .int .i64 j ∧ Hid (∀ t y, t < j → (lv ns root bm m).1[t]? = some y → ltNd y xN = true) ∧ Hid (Below wy.heap.size wy wr)) (fun i _ => (lv ns root bm m).1.length - (intOf i).toNat)
                  case atStart => exact ⟨0, Nat.zero_le _, rfl, Lib.hid (fun t y ht => by omega), Lib.hid (Below.refl _ _)⟩
                  case round =>
                    obtain ⟨j, hj, rfl, hlt, hbw⟩ := hrel
                    have j0 : (0 : Int) ≤ j := by omega
                    have x1w := (bcell hbw.out p 0 hpl).trans x1
                    have x2w := (bcell hbw.out p 1 hpl).trans x2
                    have hws := hbw.out.size
                    by_cases hjl : j < (lv ns root bm m).1.length
                    · obtain ⟨y, hy⟩ := lt_get hjl
                      have HLW := Lib.hid (HLY.out.below hbw.out)
                      obtain ⟨⟨a1, a2⟩, hpv⟩ := lt_get (l := vsl) (i := j) (by rw [HLY.out.len]; exact hjl)
                      have hrw := rowN2_at vsl j _ hpv
                      have t1 : wr.cell? ⟨g, j * 2, none⟩ = some a1 := by rw [World.ownsRow.cellAt HLW.out.nodes (j * 2) (by omega)]; exact hrw.1
                      have t2 : wr.cell? ⟨g, j * 2 + 1, none⟩ = some a2 := by rw [World.ownsRow.cellAt HLW.out.nodes (j * 2 + 1) (by omega)]; exact hrw.2
                      obtain ⟨i1, i2⟩ := HLW.out.inner j y _ hy hpv
                      simp only at i1 i2
                      have j1 : (j : Int) < (lv ns root bm m).1.length := by omega
                      obtain ⟨r, hr⟩ : ∃ r, ltNd y xN = r := ⟨_, rfl⟩
                      have CA := Lib.hid fun (W : World) (hW : Below wr.heap.size wr W) => ahead_calls a1 a2 v1 v2 y xN r (Lib.hid hr) W W1.heap.size wr.heap.size wx.heap.size wy.heap.size hW.size (by have := hW.size; omega) (i1.ints.below hW (Nat.le_refl _)) (i2.ints.below hW (Nat.le_refl _)) (hx1'.out.ints.below (hbw.out.trans (hW.mono hws)) (Nat.le_refl _)) (hx2'.out.ints.below (hbw.out.trans (hW.mono hws)) (Nat.le_refl _))
                      have HSA := Lib.hid (show wr.drew.cell? ⟨g, j * 2, none⟩ = some a1 ∧ wr.drew.cell? ⟨g, j * 2 + 1, none⟩ = some a2 ∧ wr.drew.cell? ⟨p, 0, none⟩ = some v1 ∧ wr.drew.cell? ⟨p, 1, none⟩ = some v2 ∧ Below wr.heap.size wr wr.drew from ⟨t1, t2, x1w, x2w, below_drewN (Below.refl _ _) 1⟩)
                      have HLT : Hid (r = true → ∀ t y, t < j + 1 → (lv ns root bm m).1[t]? = some y → ltNd y xN = true) := Lib.hid (fun e t y' ht hy' => by
                        by_cases c : t = j
                        · subst c
                          rw [hy] at hy'
                          injection hy' with hy'
                          subst hy'
                          rw [hr, e]
                        · exact hlt.out t y' (by omega) hy')
                      have HIN : Hid (r = false → insNd (lv ns root bm m) xN m = ((lv ns root bm m).1.take j ++ xN :: (lv ns root bm m).1.drop j, (lv ns root bm m).2.take j ++ m :: (lv ns root bm m).2.drop j)) := Lib.hid (fun e => insNd_at _ _ _ _ hj hlt.out (fun y' hy' => by
                        rw [hy] at hy'
                        injection hy' with hy'
                        subst hy'
                        rw [hr, e]))
                      clear hrw hpv hy i1 i2 hlt hr t1 t2
                      cases r
                      · have R1 := Lib.hid (HIN.out rfl)
                        clear HIN HLT
                        go_upto_region 14 with fail
                        go_region_held3 (fun w' : World => w'.cell? ⟨g, j * 2, none⟩ = some a1 ∧ w'.cell? ⟨g, j * 2 + 1, none⟩ = some a2 ∧ w'.cell? ⟨p, 0, none⟩ = some v1 ∧ w'.cell? ⟨p, 1, none⟩ = some v2 ∧ Below wr.heap.size wr w') (first | exact HSA.out | (go_split_ands; exact ⟨‹_›, ‹_›, ‹_›, ‹_›, ‹_›⟩) | (go_split_ands; exact foS_next hbA ⟨‹_›, ‹_›, ‹_›, ‹_›, ‹_›⟩)) (first
                          | (go_at_call 98; go_split_ands; (with_reducible refine (CA.out _ (by assumption)).mono ?_); rintro e wa ⟨rfl, hbA⟩))
                        rename_i hH
                        have R2 := Lib.hid (hbw.out.trans (hH.2.2.2.2.mono hws))
                        clear hH
                        go_wp2_with fail
                        go_meet
                        exact ⟨j, hj, rfl, R1, R2⟩
                      · have R1 := Lib.hid (HLT.out rfl)
                        clear HIN HLT
                        go_upto_region 14 with fail
                        go_region_held3 (fun w' : World => w'.cell? ⟨g, j * 2, none⟩ = some a1 ∧ w'.cell? ⟨g, j * 2 + 1, none⟩ = some a2 ∧ w'.cell? ⟨p, 0, none⟩ = some v1 ∧ w'.cell? ⟨p, 1, none⟩ = some v2 ∧ Below wr.heap.size wr w') (first | exact HSA.out | (go_split_ands; exact ⟨‹_›, ‹_›, ‹_›, ‹_›, ‹_›⟩) | (go_split_ands; exact foS_next hbA ⟨‹_›, ‹_›, ‹_›, ‹_›, ‹_›⟩)) (first
                          | (go_at_call 98; go_split_ands; (with_reducible refine (CA.out _ (by assumption)).mono ?_); rintro e wa ⟨rfl, hbA⟩))
                        rename_i hH
                        have R2 := Lib.hid (hbw.out.trans (hH.2.2.2.2.mono hws))
                        clear hH
                        go_wp2_with fail
                        go_roundw
                        case rel => exact ⟨j + 1, by omega, by go_num, R1, R2⟩
                        case measure => simp [intOf]; omega
                    · have hje : j = (lv ns root bm m).1.length := by omega
                      have j1 : ¬ (j : Int) < (lv ns root bm m).1.length := by omega
                      have hjd : decide ((j : Int) < (lv ns root bm m).1.length) = false := decide_eq_false j1
                      have R1 : Hid (insNd (lv ns root bm m) xN m = ((lv ns root bm m).1.take j ++ xN :: (lv ns root bm m).1.drop j, (lv ns root bm m).2.take j ++ m :: (lv ns root bm m).2.drop j)) := Lib.hid (insNd_at _ _ _ _ hj hlt.out (fun y' hy' => by
                        have := get_lt hy'
                        omega))
                      clear hje hlt
                      go_upto_region 14 with fail
                      go_quiet (fail)
                      go_wp2
                      go_meet
                      exact ⟨j, hj, rfl, R1, Lib.hid (below_drewN hbw.out _)⟩
                case rest =>
                  obtain ⟨j, hj, rfl, hins, hbz⟩ := hcut
                  obtain ⟨wz, hwz⟩ : ∃ W, W = wc := ⟨_, rfl⟩
                  subst hwz
                  have x1z := (bcell hbz.out p 0 hpl).trans x1
                  have x2z := (bcell hbz.out p 1 hpl).trans x2
                  have hzs := hbz.out.size
                  have HLZ := Lib.hid (HLY.out.below hbz.out)
                  have hcap := (World.ownsRow.caps HLZ.out.nodes).1
                  have HT := Lib.hid (HLZ.out.src_take j hj)
                  have HD := Lib.hid (HLZ.out.src_drop j hj)
                  have j0 : (0 : Int) ≤ j := by omega
                  have j1 : (j : Int) ≤ c := by omega
                  have j2 : (j : Int) ≤ (lv ns root bm m).1.length := by omega
                  have hpz := block_of_cell x1z
                  have HX1 := Lib.hid fun W (hW : Below wz.heap.size wz W) => ((hx1'.out.below hbz.out).below hW).only (s' := W1.heap.size) (F' := fun _ => False) (Only.refl _ (fun _ => False)) hxs (fun _ _ _ h => ⟨id, h⟩)
                  have HX2 := Lib.hid fun W (hW : Below wz.heap.size wz W) => ((hx2'.out.below hbz.out).below hW).only (s' := W1.heap.size) (F' := fun _ => False) (Only.refl _ (fun _ => False)) hxs (fun _ _ _ h => ⟨id, h⟩)
                  obtain ⟨vb1, vo1, vc1, hv1, _⟩ := hx1'.out
                  obtain ⟨vb2, vo2, vc2, hv2, _⟩ := hx2'.out
                  subst hv1 hv2
                  have HXS := Lib.hid fun W (hW : Below wz.heap.size wz W) => (show W.cell? ⟨p, 0, none⟩ = some (.slice (some ⟨vb1, vo1, none⟩) xN.1.length vc1) ∧ W.cell? ⟨p, 1, none⟩ = some (.slice (some ⟨vb2, vo2, none⟩) xN.2.length vc2) ∧ Below wz.heap.size wz W from ⟨(bcell hW p 0 hpz).trans x1z, (bcell hW p 1 hpz).trans x2z, hW⟩)
                  have HL1 : Hid ((lv ns root bm (m + 1)).1 = (lv ns root bm m).1.take j ++ xN :: (lv ns root bm m).1.drop j) := Lib.hid (by rw [HLP.out, hins.out])
                  have HL2 : Hid ((lv ns root bm (m + 1)).2 = (lv ns root bm m).2.take j ++ m :: (lv ns root bm m).2.drop j) := Lib.hid (by rw [HLP.out, hins.out])
                  have HLL : Hid ((lv ns root bm (m + 1)).1.length = 0 + j + 1 + ((lv ns root bm m).1.length - j)) := Lib.hid (by rw [HL1.out]; simp; omega)
                  have HLQ : Hid ((lv ns root bm (m + 1)).1.length = j + 1 + ((lv ns root bm m).1.length - j)) := Lib.hid (by rw [HLL.out, Nat.zero_add])
                  have hsz1 : W1.heap.size ≤ wz.heap.size := by omega
                  have HW1 := Lib.hid (hbx.out.trans ((hby.out.trans (hbz.out.mono hys)).mono hxs))
                  have HFR := Lib.hid fun W (hW : Below wz.heap.size wz W) => own_only hfr.out (Only.of_below (F := fun _ => False) ((hby.out.trans (hbz.out.mono hys)).trans (hW.mono (by omega)))) (fun _ _ => id)
                  clear hx1' hx2' hfr hlv HLY x1 x2
                  go_upto_region 16 with fail
                  go_cut [9] from 36 to 117 (fun q w4 => ∃ (g3 c3 : Nat) (vs3 : List (Value × Value)), q = .slice (some ⟨g3, 0, none⟩) (lv ns root bm (m + 1)).1.length c3 ∧ Hid (LvN W1.heap.size (fun _ => False) w4 (.slice (some ⟨g3, 0, none⟩) (lv ns root bm (m + 1)).1.length c3) vs3 (lv ns root bm (m + 1)).1) ∧ Hid (Below wz.heap.size wz w4))
                  case first =>
                    clear HLP hins HW1 HFR HN HK HB2 HKr HKx HNR HBL HFA HFL HAL HS HR HU hat hout hbx hb cR zR hbo hbr c1 q1 c1x c0x HAI t1 t2 q2 q3 hlv2 hbk HA HND hbz hby
                    go_region_law (first
                      | (refine step_app_nd rfl _ _ rfl hown2 rfl (HD.out _ HB2) rfl (by omega) HB2.size ?_; intro v3 w3 hown3 hgrow3; have HB3 : Below wz.heap.size wz w3 := Below.grown HB2 hgrow3 HB2.size (fun q hq => (World.ownsRow.lt hown2 q hq).1))
                      | (refine step_app_nd rfl _ _ rfl hown1 rfl (src_nd (B := wz.heap.size + 1) (v1 := .slice (some ⟨vb1, vo1, none⟩) xN.1.length vc1) (v2 := .slice (some ⟨vb2, vo2, none⟩) xN.2.length vc2) ((hgrow1.cell_far ⟨wz.heap.size + 1, 0, none⟩ (by simp) (by simp [Value.ownBlock])).trans (by go_simp)) ((hgrow1.cell_far ⟨wz.heap.size + 1, 1, none⟩ (by simp) (by simp [Value.ownBlock])).trans (by go_simp)) rfl rfl) rfl (by omega) HB1.size ?_; intro v2 w2 hown2 hgrow2; have HB2 : Below wz.heap.size wz w2 := Below.grown HB1 hgrow2 HB1.size (fun q hq => (World.ownsRow.lt hown1 q hq).1))
                      | (refine step_app_nd rfl _ _ rfl hown1 rfl (src_nd (B := wz.heap.size) (v1 := .slice (some ⟨vb1, vo1, none⟩) xN.1.length vc1) (v2 := .slice (some ⟨vb2, vo2, none⟩) xN.2.length vc2) ((hgrow1.cell_far ⟨wz.heap.size, 0, none⟩ (by simp; omega) (by simp [Value.ownBlock])).trans (by go_simp)) ((hgrow1.cell_far ⟨wz.heap.size, 1, none⟩ (by simp; omega) (by simp [Value.ownBlock])).trans (by go_simp)) rfl rfl) rfl (by omega) HB1.size ?_; intro v2 w2 hown2 hgrow2; have HB2 : Below wz.heap.size wz w2 := Below.grown HB1 hgrow2 HB1.size (fun q hq => (World.ownsRow.lt hown1 q hq).1))
                      | (refine step_app_nd rfl _ _ rfl (World.ownsRow.alloc hown1 _) rfl (src_nd (B := w1.heap.size) (v1 := .slice (some ⟨vb1, vo1, none⟩) xN.1.length vc1) (v2 := .slice (some ⟨vb2, vo2, none⟩) xN.2.length vc2) (by go_simp) (by go_simp) rfl rfl) rfl (by omega) (HB1.alloc HB1.size _).size ?_; intro v2 w2 hown2 hgrow2; have HB2 : Below wz.heap.size wz w2 := Below.grown (HB1.alloc HB1.size _) hgrow2 (HB1.alloc HB1.size _).size (fun q hq => (World.ownsRow.lt hown1 q hq).1))
                      | (refine step_app_nd rfl _ _ rfl (own_n1 wz) rfl (HT.out _ (below_n1 wz _)) rfl (by omega) (base_n1 wz _) ?_; intro v1 w1 hown1 hgrow1; have HB1 : Below wz.heap.size wz w1 := Below.grown (below_n1 wz _) hgrow1 (base_n1 wz _) (fun q hq => (World.ownsRow.lt (own_n1 wz) q hq).1); obtain ⟨y1, y2, _⟩ := HXS.out _ HB1)
                      | (refine step_app_nd rfl _ _ rfl (own_n2 wz _) rfl (HT.out _ (below_e2 wz _ _)) rfl (by omega) (base_n2 wz _ _) ?_; intro v1 w1 hown1 hgrow1; have HB1 : Below wz.heap.size wz w1 := Below.grown (below_e2 wz _ _) hgrow1 (base_n2 wz _ _) (fun q hq => (World.ownsRow.lt (own_n2 wz (.cells #[] 3)) q hq).1))
                      | (refine step_app_nd rfl _ _ rfl (own_n3 wz _) rfl (HT.out _ (below_e2 wz _ _)) rfl (by omega) (base_n2 wz _ _) ?_; intro v1 w1 hown1 hgrow1; have HB1 : Below wz.heap.size wz w1 := Below.grown (below_e2 wz _ _) hgrow1 (base_n2 wz _ _) (fun q hq => (World.ownsRow.lt (own_n3 wz (.cells #[] 3)) q hq).1)))
                    all_goals
                      have hi3 := HLZ.out.ins HB3 hsz1 hj (HX1.out _ HB3) (HX2.out _ HB3) hown3
                      obtain ⟨g3, c3, rfl, hg30, hg31⟩ := hown3.form (by omega)
                      rw [← HL1.out, ← HLL.out] at hi3
                      have HI3 := Lib.hid hi3
                      have HB3' := Lib.hid HB3
                      clear hi3 hown3 hgrow3 hown2 hgrow2 hown1 hgrow1 HB1 HB2 HB3
                      go_wp2_with fail
                      all_goals
                        go_meet
                        exact ⟨g3, c3, _, congrArg (fun n => Value.slice (some ⟨g3, 0, none⟩) n c3) HLQ.out.symm, HI3, HB3'⟩
                  case rest =>
                    obtain ⟨g3, c3, vs3, rfl, hlv3, hb4⟩ := hcut
                    obtain ⟨w4, hw4⟩ : ∃ W, W = wc := ⟨_, rfl⟩
                    subst hw4
                    have hz4 := hb4.out.size
                    have HF4 := Lib.hid (HFR.out w4 hb4.out)
                    have hcap2 := (World.ownsRow.caps HF4.out).1
                    have HTf := Lib.hid (rowF_take HF4.out j hj)
                    have HDf := Lib.hid (rowF_drop HF4.out j hj)
                    have j1' : (j : Int) ≤ c' := by omega
                    have hsz4 : W1.heap.size ≤ w4.heap.size := by omega
                    have hlf : Hid ((lv ns root bm m).2.length = (lv ns root bm m).1.length) := Lib.hid hlv2.out.symm
                    clear x1z x2z hpz hcap HLZ HT HD HX1 HX2 HXS HL1
                    go_upto_region 17 with fail
                    have HW4 := Lib.hid fun W (hW : Below w4.heap.size w4 W) => HW1.out.trans ((hb4.out.trans (hW.mono hz4)).mono hsz1)
                    have HLV4 := Lib.hid fun W (hW : Below w4.heap.size w4 W) => hlv3.out.below hW
                    clear HLP hins HW1 HFR HN HK HB2 HKr HKx HNR HBL HFA HFL HAL HS HR HU hat hout hbx hb cR zR hbo hbr c1 q1 c1x c0x HAI t1 t2 q2 q3 hbk HA HND hbz hby hlv3 hb4
                    go_region_law (first
                      | (refine step_app rfl _ _ rfl hown2 rfl (HDf.out _ HB2) rfl (by omega) HB2.size ?_; intro v3 w3 hown3 hgrow3; have HB3 : Below w4.heap.size w4 w3 := Below.grown HB2 hgrow3 HB2.size (fun q hq => (World.ownsRow.lt hown2 q hq).1))
                      | (refine step_app rfl _ _ rfl hown1 rfl (src_one (n := m) ((hgrow1.cell_far ⟨w4.heap.size + 1, 0, none⟩ (by simp) (by simp [Value.ownBlock])).trans (by go_simp))) rfl (by omega) HB1.size ?_; intro v2 w2 hown2 hgrow2; have HB2 : Below w4.heap.size w4 w2 := Below.grown HB1 hgrow2 HB1.size (fun q hq => (World.ownsRow.lt hown1 q hq).1))
                      | (refine step_app rfl _ _ rfl hown1 rfl (src_one (n := m) ((hgrow1.cell_far ⟨w4.heap.size, 0, none⟩ (by simp; omega) (by simp [Value.ownBlock])).trans (by go_simp))) rfl (by omega) HB1.size ?_; intro v2 w2 hown2 hgrow2; have HB2 : Below w4.heap.size w4 w2 := Below.grown HB1 hgrow2 HB1.size (fun q hq => (World.ownsRow.lt hown1 q hq).1))
                      | (refine step_app rfl _ _ rfl (World.ownsRow.alloc hown1 _) rfl (src_one (B := w1.heap.size) (n := m) (by go_simp)) rfl (by omega) (HB1.alloc HB1.size _).size ?_; intro v2 w2 hown2 hgrow2; have HB2 : Below w4.heap.size w4 w2 := Below.grown (HB1.alloc HB1.size _) hgrow2 (HB1.alloc HB1.size _).size (fun q hq => (World.ownsRow.lt hown1 q hq).1))
                      | (refine step_app rfl _ _ rfl (own_e1 w4) rfl (HTf.out _ (below_e1 w4)) rfl (by omega) (base_e1 w4) ?_; intro v1 w1 hown1 hgrow1; have HB1 : Below w4.heap.size w4 w1 := Below.grown (below_e1 w4) hgrow1 (base_e1 w4) (fun q hq => (World.ownsRow.lt (own_e1 w4) q hq).1))
                      | (refine step_app rfl _ _ rfl (own_e2 w4 _) rfl (HTf.out _ (below_e2 w4 _ _)) rfl (by omega) (base_e2 w4 _) ?_; intro v1 w1 hown1 hgrow1; have HB1 : Below w4.heap.size w4 w1 := Below.grown (below_e2 w4 _ _) hgrow1 (base_e2 w4 _) (fun q hq => (World.ownsRow.lt (own_e2 w4 (.cells #[] 3)) q hq).1))
                      | (refine step_app rfl _ _ rfl (own_e3 w4 _) rfl (HTf.out _ (below_e2 w4 _ _)) rfl (by omega) (base_e3 w4 _) ?_; intro v1 w1 hown1 hgrow1; have HB1 : Below w4.heap.size w4 w1 := Below.grown (below_e2 w4 _ _) hgrow1 (base_e3 w4 _) (fun q hq => (World.ownsRow.lt (own_e3 w4 (.cells #[] 3)) q hq).1)))
                    all_goals
                      have hi3 := rowF_ins (s := W1.heap.size) hlf.out hsz4 hj hown3
                      obtain ⟨g5, c5, rfl, hg50, hg51⟩ := hown3.form (by omega)
                      rw [← HL2.out, ← HLL.out] at hi3
                      have HI3 := Lib.hid hi3
                      have R1 := Lib.hid (HLV4.out _ HB3)
                      have R2 := Lib.hid (HW4.out _ HB3)
                      clear hi3 hown3 hgrow3 hown2 hgrow2 hown1 hgrow1 HB1 HB2 HB3
                      go_wp2
                      all_goals
                        go_roundw
                        case rel => exact ⟨m + 1, g3, c3, g5, c5, vs3, by omega, by go_num, rfl, congrArg (fun n => Value.slice (some ⟨g5, 0, none⟩) n c5) HLQ.out.symm, R1, HI3, R2⟩
                        case measure => simp [intOf]; omega
            · have hbi : ((bm : Int) != n) = true := by simp; omega
              have HLE := Lib.hid (lv_skip (ns := ns) (root := root) (n := n) (m := m) (Or.inr (by rw [hbmo]; exact hbn)))
              clear hbmo hnd
              go_wp2
              go_roundw
              case rel => exact ⟨m + 1, g, c, g', c', vsl, by omega, by go_num, by rw [HLE.out], by rw [HLE.out], by rw [HLE.out]; exact hlv, by rw [HLE.out]; exact hfr, hbx⟩
              case measure => simp [intOf]; omega
        · have hme : m = root + 1 := by omega
          subst hme
          have hgl := World.ownsRow.lt hlv.out.nodes _ rfl
          have hfl := World.ownsRow.lt hfr.out _ rfl
          have hAl := World.ownsRow.lt hat.out _ rfl
          have hOl := block_of_cell hout.out.c0
          have hxs := hbx.out.size
          have hws := hb.out.size
          have HA := Lib.hid (hat.out.below hbx.out)
          have HO := Lib.hid (hout.out.below hbx.out)
          have HF0 : Hid (∀ b, (b = w3.heap.size + 1 ∨ b = w2.heap.size ∨ vo.ownBlock = some b) → w2.heap.size ≤ b ∧ b < W1.heap.size) := Lib.hid (fun b h => by
            rcases h with rfl | rfl | h
            · exact ⟨by omega, hOl⟩
            · exact ⟨Nat.le_refl _, hAl.2⟩
            · exact World.ownsRow.lt hout.out.lv.nodes b h)
          have hll : Hid ((lv ns root n (root + 1)).2.length = (lv ns root n (root + 1)).1.length) := Lib.hid (lvl_len _ _ _ _ _ _).1.symm
          have hlF : Hid (∀ x ∈ (lv ns root n (root + 1)).2, x < root + 1) := Lib.hid (lvl_lt _ _ _ _ _ _)
          have HFS := Lib.hid (fo_succ ns root n)
          have hNl : Hid ((fo ns root n).2.length + (lv ns root n (root + 1)).1.length ≤ 200000) := Lib.hid (by
            have h1 := HFL.out n
            have h2 := (lvl_len (needF ns root) (bOf ns) ns (fun x => (fo ns root n).1.getD x 0) n (root + 1)).2
            have h3 : (lv ns root n (root + 1)).1.length ≤ root + 1 := h2
            unfold fo at h1 ⊢
            omega)
          clear hat hout HKr HBL HNR HFA HFL HS HR HAL HN HK
          generalize hL : (lv ns root n (root + 1)).1 = L at hlv hfr hll hNl HFS
          generalize hfrl : (lv ns root n (root + 1)).2 = fr at hfr hll hlF HFS
          generalize hAA : (fo ns root n).1 = AA at HA HFS
          generalize hNN : (fo ns root n).2 = NN at HO HFS hNl
          clear hL hfrl hAA hNN
          have hNL := hNl.out
          clear hNl
          go_wp2
          go_loopw [14] (fun i wr => ∃ (k : Nat) (vo' : Value) (vs2 : List (Value × Value)), k ≤ L.length ∧ i = .int .i64 k ∧ Hid (RowI w2.heap.size w2.heap.size (root + 1) (setAll AA NN.length (fr.take k)) wr) ∧ Hid (OutN w2.heap.size (w3.heap.size + 1) w2.heap.size wr vo' vs2 (NN ++ L.take k)) ∧
            Hid (∀ b, vo'.ownBlock = some b → vo.ownBlock = some b ∨ wx.heap.size ≤ b) ∧ Hid (Only wx wr (fun b => b = w3.heap.size + 1 ∨ b = w2.heap.size ∨ vo.ownBlock = some b))) (fun i _ => L.length - (intOf i).toNat)
          case atStart => exact ⟨0, vo, vs', Nat.zero_le _, rfl, by simpa [setAll] using HA, by simpa using HO, Lib.hid (fun b h => Or.inl h), Lib.hid (Only.refl _ _)⟩
          case round =>
            obtain ⟨k, vo', vs2, hk, rfl, hat, hout, hob, hon⟩ := hrel
            obtain ⟨wy, hwy⟩ : ∃ W, W = wr := ⟨_, rfl⟩
            subst hwy
            clear HA HO
            by_cases hlt : k < L.length
            · obtain ⟨nd, hnd⟩ := lt_get hlt
              obtain ⟨⟨p1, p2⟩, hp⟩ := lt_get (l := vsl) (i := k) (by rw [hlv.out.len]; exact hlt)
              obtain ⟨x, hx⟩ := lt_get (l := fr) (i := k) (by rw [hll.out]; exact hlt)
              have hxr := hlF.out x (List.mem_of_getElem? hx)
              have hys := hon.out.size
              have hF1 : ∀ b, W1.heap.size ≤ b → ¬ (b = w3.heap.size + 1 ∨ b = w2.heap.size ∨ vo.ownBlock = some b) := fun b h1 h2 => by have := (HF0.out b h2).2; omega
              have cF : wy.cell? ⟨g', k, none⟩ = some (.int .i64 x) := by
                rw [hon.out.cell hfl.2 (hF1 g' hfl.1)]
                have h1 := World.ownsRow.cellAt hfr.out k (by omega)
                rw [h1, List.getElem?_map, hx]
                rfl
              have hrow := rowN2_at vsl k (p1, p2) hp
              have hlN := hlv.out.nodes
              have hlNl : k * 2 + 1 < (rowN2 vsl).length := by rw [rowN2_len, hlv.out.len]; omega
              have cN1 : wy.cell? ⟨g, k * 2, none⟩ = some p1 := by
                rw [hon.out.cell hgl.2 (hF1 g hgl.1), World.ownsRow.cellAt hlN (k * 2) (by omega)]
                exact hrow.1
              have cN2 : wy.cell? ⟨g, k * 2 + 1, none⟩ = some p2 := by
                rw [hon.out.cell hgl.2 (hF1 g hgl.1), World.ownsRow.cellAt hlN (k * 2 + 1) (by omega)]
                exact hrow.2
              have hnot : ∀ b, W1.heap.size ≤ b → b < wx.heap.size → ¬ (b = w3.heap.size + 1 ∨ b = w2.heap.size ∨ vo'.ownBlock = some b) := fun b h1 h2 h3 => by
                rcases h3 with h3 | h3 | h3
                · exact hF1 b h1 (Or.inl h3)
                · exact hF1 b h1 (Or.inr (Or.inl h3))
                · rcases hob.out b h3 with h4 | h4
                  · exact hF1 b h1 (Or.inr (Or.inr h4))
                  · omega
              obtain ⟨i1, i2⟩ := hlv.out.inner k nd (p1, p2) hnd hp
              have I1 : Hid (InL w2.heap.size (fun b => b = w3.heap.size + 1 ∨ b = w2.heap.size ∨ vo'.ownBlock = some b) wy p1 nd.1) := Lib.hid (i1.only hon.out (by omega) (fun b h1 h2 _ => ⟨hF1 b h1, hnot b h1 h2⟩))
              have I2 : Hid (InL w2.heap.size (fun b => b = w3.heap.size + 1 ∨ b = w2.heap.size ∨ vo'.ownBlock = some b) wy p2 nd.2) := Lib.hid (i2.only hon.out (by omega) (fun b h1 h2 _ => ⟨hF1 b h1, hnot b h1 h2⟩))
              have HTN : Hid (NN ++ L.take (k + 1) = (NN ++ L.take k) ++ [nd]) := Lib.hid (take_next NN L k nd hnd)
              have hol : Hid ((NN ++ L.take k).length = NN.length + k) := Lib.hid (by rw [List.length_append, List.length_take]; omega)
              generalize NN ++ L.take k = OU at hout HTN hol
              obtain ⟨ao, co, hvo⟩ := own_form' hout.out.lv.nodes
              have cO := hout.out.c0
              have zO := hout.out.z0
              have hOl2 := block_of_cell cO
              have hlat := World.ownsRow.lt hat.out _ rfl
              have hlen := hat.out.len
              obtain ⟨y0, hy0⟩ := lt_get (l := setAll AA NN.length (fr.take k)) (i := x) (by rw [hlen]; exact hxr)
              have cA := hat.out.at_ hy0
              have zA : wy.frozen? ⟨w2.heap.size, x, none⟩ = false := World.ownsRow.frozenAt hat.out x
              have HSA : Hid (setAll AA NN.length (fr.take (k + 1)) = (setAll AA NN.length (fr.take k)).set x OU.length) := Lib.hid (by rw [hol.out]; exact setAll_take AA NN.length k fr x hx)
              subst hvo
              have b0 : (0 : Int) ≤ k := by omega
              have b1 : (k : Int) < L.length := by omega
              have b2 : (x : Int) < (root : Int) + 1 := by omega
              have b3 : (0 : Int) ≤ x := by omega
              have hgne : g ≠ w2.heap.size := by omega
              clear i1 i2 hF1 hnot hrow hlN hlNl hy0 hlen hnd hp hx
              clear hr HU hbb hw0 r0 r1 r2 r3 cR zR HB2 hz2w hgN hbr hn1 hrl c1 q1 hsz hm hmr hAl hOl hws hbx hb
              go_upto_region 21 with fail
              go_cut [] from 124 to 141 (fun wc => wc = (wy.setCell ⟨w2.heap.size, x, none⟩ (.int .i64 (OU.length : Int))).drew)
              case first =>
                go_region_law (fail)
                all_goals
                  go_wp2_with fail
                  go_meet
                  exact rfl
              case rest =>
                have ho5 : Only wy (wy.setCell ⟨w2.heap.size, x, none⟩ (.int .i64 (OU.length : Int))).drew (fun b => b = w2.heap.size) := (Only.of_set (F := fun b => b = w2.heap.size) (p := ⟨w2.heap.size, x, none⟩) _ rfl).trans (Only.of_below (F := fun b => b = w2.heap.size) (below_drewN (Below.refl _ _) 1)) (fun _ _ h => h)
                have HR5 : Hid (RowI w2.heap.size w2.heap.size (root + 1) ((setAll AA NN.length (fr.take k)).set x OU.length) (wy.setCell ⟨w2.heap.size, x, none⟩ (.int .i64 (OU.length : Int))).drew) := Lib.hid (World.ownsRow.drew (RowI.set hat.out))
                have HT5 := Lib.hid (hout.out.only ho5 (by omega))
                have J1 := Lib.hid (I1.out.only ho5 (Nat.le_refl _) (fun b _ _ hb => ⟨fun e => hb (Or.inr (Or.inl e)), hb⟩))
                have J2 := Lib.hid (I2.out.only ho5 (Nat.le_refl _) (fun b _ _ hb => ⟨fun e => hb (Or.inr (Or.inl e)), hb⟩))
                have hgy : g < wy.heap.size := by omega
                have e1 := (ho5.cell hgy hgne).trans cN1
                have e2 := (ho5.cell hgy hgne).trans cN2
                have HO5 := Lib.hid ho5
                subst hcut
                clear ho5 cF cA zA cO zO cN1 cN2 hat hout I1 I2 hlat
                generalize (wy.setCell ⟨w2.heap.size, x, none⟩ (.int .i64 (OU.length : Int))).drew = ws at HR5 HT5 J1 J2 e1 e2 HO5 ⊢
                have f1 := HT5.out.c0
                have f2 := HT5.out.z0
                have f3 := block_of_cell f1
                have f4 := HO5.out.size
                have s1 := J1.out.one
                have s2 := J2.out.one
                have hG5 : w2.heap.size < ws.heap.size := (World.ownsRow.lt HR5.out _ rfl).2
                have HBa : Hid (Below ws.heap.size ws (ws.alloc (.cells #[p1, p2] 57)).drew) := Lib.hid (below_drewN ((Below.refl _ _).alloc (Nat.le_refl _) _) 1)
                have HTa := Lib.hid (HT5.out.below HBa.out)
                have Ja1 := Lib.hid (J1.out.below HBa.out)
                have Ja2 := Lib.hid (J2.out.below HBa.out)
                have hza : (ws.alloc (.cells #[p1, p2] 57)).drew.heap.size = ws.heap.size + 1 := by simp
                clear J1 J2 hll hlF HFS hlv hfr
                go_upto_region 22 with fail
                go_region_law (refine step_app_nd_at rfl _ _ rfl (World.ownsRow.drew (World.ownsRow.alloc HT5.out.lv.nodes _)) rfl (src_nd (B := ws.heap.size) (v1 := p1) (v2 := p2) (by go_simp) (by go_simp) s1 s2) rfl (by rw [hol.out]; omega) (by rw [hza]; omega) ?_; intro v5 w5 hown5 hgrow5 hat5; obtain ⟨g5, c5, rfl, hg50, hg51⟩ := hown5.form (by omega); have d0 := (hgrow5.cell_far ⟨w3.heap.size + 1, 0, none⟩ (by rw [hza]; show w3.heap.size + 1 < ws.heap.size + 1; omega) (fun e => HTa.out.so e.symm)).trans HTa.out.c0; have dz := (hgrow5.frozen_far ⟨w3.heap.size + 1, 0, none⟩ (by rw [hza]; show w3.heap.size + 1 < ws.heap.size + 1; omega) (fun e => HTa.out.so e.symm)).trans HTa.out.z0)
                all_goals
                  obtain ⟨P1, P2⟩ := OutN.push (p := (p1, p2)) (nd := nd) HTa.out hgrow5 hown5 hat5 (by rw [hza]; omega) ⟨Ja1.out, Ja2.out⟩
                  have ho6 : Only ws (w5.setCell ⟨w3.heap.size + 1, 0, none⟩ (.slice (some ⟨g5, 0, none⟩) (OU.length + 1) c5)) (fun b => b = w3.heap.size + 1 ∨ (Value.slice ao OU.length co).ownBlock = some b) := (Only.of_below HBa.out).trans P2 (fun _ _ h => h)
                  have R1 : Hid (RowI w2.heap.size w2.heap.size (root + 1) ((setAll AA NN.length (fr.take k)).set x OU.length) (w5.setCell ⟨w3.heap.size + 1, 0, none⟩ (.slice (some ⟨g5, 0, none⟩) (OU.length + 1) c5))) := Lib.hid (own_only HR5.out ho6 (fun g0 e1 e2 => by
                    have e3 : w2.heap.size = g0 := by injection e1
                    subst e3
                    rcases e2 with e2 | e2
                    · omega
                    · exact HT5.out.sg e2))
                  have R2 : Hid (OutN w2.heap.size (w3.heap.size + 1) w2.heap.size (w5.setCell ⟨w3.heap.size + 1, 0, none⟩ (.slice (some ⟨g5, 0, none⟩) (OU.length + 1) c5)) (.slice (some ⟨g5, 0, none⟩) (OU.length + 1) c5) (vs2 ++ [(p1, p2)]) (NN ++ L.take (k + 1))) := Lib.hid (by rw [HTN.out]; exact P1)
                  have R3 : Hid (∀ b, (Value.slice (some ⟨g5, 0, none⟩) (OU.length + 1) c5).ownBlock = some b → vo.ownBlock = some b ∨ wx.heap.size ≤ b) := Lib.hid (fun b e => by
                    rcases hat5 with e2 | e2
                    · exact hob.out b (e2 ▸ e)
                    · rw [e2, hza] at e
                      injection e with e
                      right
                      omega)
                  have R4 : Hid (Only wx (w5.setCell ⟨w3.heap.size + 1, 0, none⟩ (.slice (some ⟨g5, 0, none⟩) (OU.length + 1) c5)) (fun b => b = w3.heap.size + 1 ∨ b = w2.heap.size ∨ vo.ownBlock = some b)) := Lib.hid ((hon.out.trans HO5.out (fun i _ e => Or.inr (Or.inl e))).trans ho6 (fun i hi e => by
                    rcases e with e | e
                    · exact Or.inl e
                    · rcases hob.out i e with e2 | e2
                      · exact Or.inr (Or.inr e2)
                      · omega))
                  clear P1 P2 ho6 hown5 hgrow5 hat5 HTa HBa HR5 HT5
                  go_wp2
                  go_roundw
                  case rel => exact ⟨k + 1, (.slice (some ⟨g5, 0, none⟩) (OU.length + 1) c5), vs2 ++ [(p1, p2)], by omega, by go_num, by rw [HSA.out]; exact R1, R2, R3, R4⟩
                  case measure => simp [intOf]; omega
            · have b1 : ¬ (k : Int) < L.length := by omega
              have hke : k = L.length := by omega
              subst hke
              have T1 : fr.take L.length = fr := List.take_of_length_le (by rw [hll.out]; exact Nat.le_refl _)
              have T2 : L.take L.length = L := List.take_of_length_le (Nat.le_refl _)
              rw [T1] at hat
              rw [T2] at hout
              have HE1 : Hid ((fo ns root (n + 1)).1 = setAll AA NN.length fr) := Lib.hid (by rw [HFS.out])
              have HE2 : Hid ((fo ns root (n + 1)).2 = NN ++ L) := Lib.hid (by rw [HFS.out])
              have HBE : Hid (Below w2.heap.size w2 wy) := Lib.hid ((hb.out.trans (hbx.out.mono hws)).trans (hon.out.below (by omega) (fun b h => (HF0.out b h).1)))
              clear T1 T2 hob hon HFS hlF hll
              go_wp2
              go_roundw
              case rel => exact ⟨n + 1, vo', vs2, by omega, by go_num, by rw [HE1.out]; exact hat, by rw [HE2.out]; exact hout, HBE⟩
              case measure => simp [intOf]; omega
    · have hne : n = br + 1 := by omega
      have HE : Hid (fo ns root n = fo ns root (bOf ns root + 1)) := Lib.hid (by rw [hbo, hne])
      have hnbi : ¬ (n : Int) ≤ br := by omega
      have k1 := hout.out.c0
      have kR := (bcell hb.out w.heap.size 0 (by omega)).trans cR
      have zR' := ((bcell2 hb.out).2 w.heap.size 0 (by omega)).trans zR
      obtain ⟨ao, co, hvo⟩ := own_form' hout.out.lv.nodes
      have HZ := Lib.hid hout.out.lv
      subst hvo
      rw [HE.out] at HZ
      have hbz := hb.out.size
      clear hat hout HKr
      go_wp2
      refine bodyPost_ret (v := .agg #[.slice ao (fo ns root n).2.length co]) (by simp [kR, results, Try.results75, go_sem]; rw [hne]) rfl ?_
      have q0 : w.heap.size < w2.heap.size := by omega
      refine ⟨.slice ao (fo ns root n).2.length co, by rw [hne], ?_⟩
      rw [HE.out]
      refine ⟨?_, (HB2.out.trans (hb.out.mono (by omega))).setCell (Nat.le_refl _) _⟩
      have HZ' := HZ.out
      simp only [hbo] at HZ' ⊢
      exact ⟨_, HZ'.fin q0 (by omega) (fun b e => Or.inr (Or.inr e)) _⟩
theorem form_calls (base B : Nat) (ns : List Nd) (vn vb : Value) (vs : List (Value × Value)) (X : Nat → Prop) (root : Nat) (w : World) (h : Bk base w B ns (bornsOf ns) vn vb vs X) (hbk : Book ns) (hr : root < ns.length) (hn : ns.length ≤ 90000) :
    Calls Try.prog 75 #[.pointer (some ⟨B, 0, none⟩), .int .i64 root] w fun e w' => ∃ v, e = .returned (.agg #[v]) ∧ NodesZ w' w.heap.size w'.heap.size v ((fo ns root (bOf ns root + 1)).2.map upN) ∧ Below w.heap.size w w' := by
  refine (form_callsL base B ns vn vb vs X root w h hbk hr hn).mono ?_
  rintro e w' ⟨v, he, ⟨vs', hl⟩, hb⟩
  exact ⟨v, he, hl.nodesZ, hb⟩

end Go.Proofs.Ytabfdaofikccmaa
