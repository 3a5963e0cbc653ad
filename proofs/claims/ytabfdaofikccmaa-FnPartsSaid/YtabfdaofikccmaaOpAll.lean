/- What movedOptions makes. -/
import Derived.Test.YtabfdaofikccmaaFmPartL
import Derived.Test.YtabfdaofikccmaaFmPart
import Derived.Test.YtabfdaofikccmaaFmMarkN
import Derived.Test.YtabfdaofikccmaaFmFormP
import Derived.Test.YtabfdaofikccmaaFmSet
import Derived.Test.YtabfdaofikccmaaFmAt
import Derived.Test.YtabfdaofikccmaaInAll
import Derived.Test.YtabfdaofikccmaaFmGoodI
import Derived.Test.YtabfdaofikccmaaDrAll
import Derived.Deep.RegionHeld3
import Derived.Maps.AppendAt
import Derived.Test.YtabfdaofikccmaaFmRootN
namespace Go.Proofs.Ytabfdaofikccmaa
section
set_option linter.unusedVariables false
set_option linter.unusedSimpArgs false
open Go.RowKit
/-- what movedOptions makes -/
def MovedC : Prop := ∀ (vo vp : Value) (L Q : List Nat) (w : World) (lo hi lo' hi' : Nat), hi ≤ w.heap.size → hi' ≤ w.heap.size → IntsZ w lo hi vo (upL L) → IntsZ w lo' hi' vp (upL Q) → (∀ x ∈ L, x < Q.length) → L.length ≤ 1000 → Q.length ≤ 1000000 →
  Calls Try.prog 83 #[vo, vp] w fun e w' => ∃ g c, e = .returned (.slice (some ⟨g, 0, none⟩) (sortd (L.map (fun x => Q.getD x 0))).length c) ∧ OwnI w' w.heap.size (.slice (some ⟨g, 0, none⟩) (sortd (L.map (fun x => Q.getD x 0))).length c) (upL (sortd (L.map (fun x => Q.getD x 0)))) ∧ Below w.heap.size w w'
end

section
open Go.RowKit
open Go.Maps (Keyed)
set_option linter.unusedVariables false
set_option linter.unusedSimpArgs false
theorem zeroU (w : World) : (zeroValue 124).run Try.prog w = .ok (.agg #[]) w := by
  kernel_rfl
theorem setHas_calls (b n x : Nat) (S : Nat → Bool) (w : World) (hs : SetN w b n S) (hx : x ≤ 1000000000) :
    Calls Try.prog 82 #[.map (some b), .int .i64 x] w fun e w' => e = .returned (.bool (S x)) ∧ Below w.heap.size w w' := by
  obtain ⟨D, hown, hD1, hD2⟩ := hs
  have hkey := keyN x hx
  have hd := hD1 x
  clear hD1 hD2
  go_enter Try.func82, Try.ntmps82
  go_wp2_with (at_lookup; refine wpList_lookup_own_unit _ rfl _ _ 107 rfl 3 124 lawI Try.underlying107 (zeroU _) b n D rfl hown _ _ rfl hkey ?_)
  go_ret
  exact ⟨rfl, (Below.refl _ _).alloc (Nat.le_refl _) _⟩
end

section
open Go.RowKit
set_option linter.unusedVariables false
set_option linter.unusedSimpArgs false
set_option maxRecDepth 100000 in
set_option maxHeartbeats 2000000 in
theorem partOf_calls (CM : MovedC) (v : Value) (f : List Nd) (top : Nat) (w : World) (lo hi : Nat) (hh : hi ≤ w.heap.size) (hv : NodesZ w lo hi v (f.map upN)) (hu : Under f) (ht : top < f.length) (hl : f.length ≤ 120) (hn : ∀ nd ∈ f, nd.1.length ≤ 24 ∧ nd.2.length ≤ 24) :
    Calls Try.prog 49 #[v, .int .i64 top] w fun e w' => ∃ a c vs, e = .returned (.agg #[.slice a (partI f top).length c]) ∧ OwnF w' w.heap.size (.slice a (partI f top).length c) vs ((partI f top).map upN) ∧ Below w.heap.size w w' := by
  obtain ⟨i0, hi0, hz0, hz1, hz2⟩ := info_parts infoIntA
  have HV := Lib.hid hv
  have HU := Lib.hid hu
  have HN := Lib.hid hn
  obtain ⟨ao, c, rfl, hcap, _⟩ := hv
  rw [List.length_map] at HV hcap ⊢
  have hcc : (top : Int) + 1 ≤ c := by omega
  clear hu hn
  have hmm := @run_makeMap Try.prog
  have C0 : Hid (Calls Try.prog 81 #[.map (some (w.heap.size + 1)), .slice (some ⟨w.heap.size + 1 + 1, 0, none⟩) 1 1] (((w.alloc (.cells #[.slice none 0 0] 28)).alloc (.map #[] 0)).alloc (.cells #[.int .i64 (top : Int)] 3)) fun e w' => e = .returned (.tuple #[]) ∧ SetN w' (w.heap.size + 1) (0 + [top].length) (fun y => decide (y ∈ [top]) || false) ∧ (((w.alloc (.cells #[.slice none 0 0] 28)).alloc (.map #[] 0)).alloc (.cells #[.int .i64 (top : Int)] 3)).grownBy w' (some (w.heap.size + 1))) := Lib.hid (by
    have e1 : (w.alloc (.cells #[.slice none 0 0] 28)).heap.size = w.heap.size + 1 := by simp
    have h := ints_one ((w.alloc (.cells #[.slice none 0 0] 28)).alloc (.map #[] 0)) top 3
    have hs : SetN ((w.alloc (.cells #[.slice none 0 0] 28)).alloc (.map #[] 0)) (w.heap.size + 1) 0 (fun _ => false) := by
      rw [← e1]
      exact ⟨.map [], World.ownsMap_made _ _ _ _, fun x => by simp [Maps.has], fun kl hk => by simp [Maps.has] at hk⟩
    rw [show ((w.alloc (.cells #[.slice none 0 0] 28)).alloc (.map #[] 0)).heap.size = w.heap.size + 1 + 1 from by simp] at h
    exact setAdd_calls (w.heap.size + 1) 0 (fun _ => false) _ [top] _ _ _ (hs.kept (World.grownBy_alloc _ _ none) (by simp)) h (fun x hx => by simp at hx; omega) (by simp))
  have hbx0 : BoxAt (((w.alloc (.cells #[.slice none 0 0] 28)).alloc (.map #[] 0)).alloc (.cells #[.int .i64 (top : Int)] 3)) w.heap.size (.slice none 0 0) := ⟨by go_simp, by go_simp⟩
  go_enter Try.func49, Try.ntmps49
  go_wp2_with fail
  refine C0.out.mono ?_
  rintro e w1 ⟨rfl, hs, hg⟩
  have hbx1 := hbx0.grown hg (by simp)
  have HS1 : Hid (SetN w1 (w.heap.size + 1) 1 (fun y => ((List.replicate (top + 1) false).set top true).getD y false)) := Lib.hid (setN_congr hs (fun x => by
    by_cases e : x = top
    · subst e; simp [List.getD_eq_getElem?_getD]
    · rw [List.getD_eq_getElem?_getD, List.getElem?_set_ne (Ne.symm e)]
      rcases Nat.lt_or_ge x (top + 1) with h | h
      · simp [e, h]
      · simp [e, h]))
  have HB1 : Hid (Below w.heap.size w w1) := Lib.hid (((((Below.refl _ _).alloc (Nat.le_refl _) _).alloc (by simp) _).alloc (by simp; omega) _).grown hg (by simp; omega) (fun q hq => by injection hq with hq; omega))
  have HRE : Hid (reachD f (top + 1) ((List.replicate (top + 1) false).set top true) = reachF f top) := Lib.hid rfl
  clear hs hg C0 hmm hbx0
  go_wp2
  go_loopw [6] (fun i wr => ∃ (m n : Nat) (o : List Bool), m ≤ top + 1 ∧ i = .int .i64 ((m : Int) - 1) ∧ o.length = top + 1 ∧ n + 48 * m ≤ 1 + 48 * (top + 1) ∧ Hid (reachD f m o = reachF f top) ∧ Hid (SetN wr (w.heap.size + 1) n (fun y => o.getD y false)) ∧ Hid (Below w.heap.size w wr) ∧ BoxAt wr w.heap.size (.slice none 0 0)) (fun i _ => (intOf i + 1).toNat)
  case atStart => exact ⟨top + 1, 1, _, Nat.le_refl _, congrArg (Value.int .i64) (by omega), by simp, Nat.le_refl _, HRE, HS1, HB1, hbx1⟩
  case round =>
    obtain ⟨m, n, o, hm, rfl, hol, hn48, hrd, hset, hb, hbx⟩ := hrel
    clear HRE HS1 HB1 hbx1
    cases m with
    | zero =>
      have R : Hid (o = reachF f top) := Lib.hid hrd.out
      have hneg : ¬ (0 : Int) ≤ ((0 : Nat) : Int) - 1 := by omega
      clear hrd
      rw [R.out] at hset
      clear R hol
      obtain ⟨W1, hW1⟩ : ∃ W, W = wr := ⟨_, rfl⟩
      subst hW1
      have hw0 : IntKind.i64.wrap ((top : Int) + 1) = (top : Int) + 1 := IntWalk.i64_in _ (by omega)
      have r0 : (0 : Int) ≤ top := by omega
      have r1 : (0 : Int) ≤ (top : Int) + 1 := by omega
      have r2 : ((top : Int) + 1).toNat = top + 1 := by omega
      have hsz1 := hb.out.size
      have hpb : (W1.alloc (.cells #[.slice none 0 0] 28)).cell? ⟨W1.heap.size, 0, none⟩ = some (.slice none 0 0) := by go_simp
      have hbA : Below W1.heap.size W1 (W1.alloc (.cells #[.slice none 0 0] 28)) := (Below.refl _ _).alloc (Nat.le_refl _) _
      go_wp2_with (at_make; refine wpList_make_full _ rfl _ _ 34 rfl w.heap.size 3 i0 (.int .i64 0) 1 Try.underlying34 hi0 hz0 hz1 _ _ _ _ (top + 1) rfl rfl (by first | rfl | (simp; done)) (by first | rfl | (simp; done)) (by rw [hz2]; omega) (by unfold maxLen; omega) (by simp; omega) ?_; intro w2 hown hg)
      have hzA : (W1.alloc (.cells #[.slice none 0 0] 28)).heap.size = W1.heap.size + 1 := by simp
      rw [hzA] at hown
      have hsz2 := hg.size
      rw [hzA] at hsz2
      have hpc2 : w2.cell? ⟨W1.heap.size, 0, none⟩ = some (.slice none 0 0) := (World.cell?_of_block (a := ⟨W1.heap.size, 0, none⟩) (hg.block W1.heap.size (by rw [hzA]; omega) (by simp))).trans hpb
      have hpf2 : w2.frozen? ⟨W1.heap.size, 0, none⟩ = false := (World.frozen?_of_block (a := ⟨W1.heap.size, 0, none⟩) (hg.block W1.heap.size (by rw [hzA]; omega) (by simp))).trans (by go_simp)
      have HB2 : Hid (Below w.heap.size w w2) := Lib.hid ((hb.out.trans (hbA.mono hsz1)).grown hg (by rw [hzA]; omega) (fun q hq => by cases hq))
      have HP2 : Hid (OwnI w2 w.heap.size (.slice (some ⟨W1.heap.size + 1, 0, none⟩) (top + 1) (top + 1)) (upL (partN f (fun k => (reachF f top).getD k false) top 0).1)) := Lib.hid (by
        have e : (madeCells (Value.int .i64 0).cells ((top + 1) * 1)).toList = (upL (List.replicate (top + 1) 0)).map (Value.int .i64) := by
          show (madeCells #[Value.int .i64 0] ((top + 1) * 1)).toList = _
          rw [Nat.mul_one, made_one]
          simp [upL]
        rw [e] at hown
        show w2.ownsRow _ _ _ _ (upL (List.replicate (top + 1) 0)).length _
        rw [upL_len, List.length_replicate]
        exact hown)
      have HS2 : Hid (SetN w2 (w.heap.size + 1) n (fun y => (reachF f top).getD y false)) := Lib.hid ((hset.out.kept (World.grownBy_alloc _ _ none) (by simp)).kept hg (by simp))
      have HF2 : Hid (OwnF w2 w2.heap.size (.slice none 0 0) [] ((partN f (fun k => (reachF f top).getD k false) top 0).2.map upN)) := Lib.hid (OwnF.nil _ _)
      have hgp := (hown.lt _ rfl).2
      have hsS := HS2.out.lt
      have hn6 : n ≤ 1 + 48 * (top + 1) := by omega
      obtain ⟨need, hneed⟩ : ∃ need : Nat → Bool, (fun k => (reachF f top).getD k false) = need := ⟨_, rfl⟩
      rw [hneed] at HP2 HF2
      have HS2 : Hid (SetN w2 (w.heap.size + 1) n need) := Lib.hid (setN_congr HS2.out (fun x => congrFun hneed x))
      have HNE := Lib.hid hneed
      have hrW := block_of_cell hbx.1
      have hbx2 : BoxAt w2 w.heap.size (.slice none 0 0) := (hbx.below hbA).grown hg (by simp)
      clear hown hg hpb hbA hset hb hbx hneed hzA hn48
      go_loopw [46] (fun i wr => ∃ (k : Nat) (a : Option Addr) (cn : Nat) (vs : List (Value × Value)), k ≤ top + 1 ∧ i = .int .i64 (k : Int) ∧ Hid (OwnF wr w2.heap.size (.slice a (partN f need top k).2.length cn) vs ((partN f need top k).2.map upN)) ∧ BoxAt wr W1.heap.size (.slice a (partN f need top k).2.length cn) ∧ Hid (OwnI wr w.heap.size (.slice (some ⟨W1.heap.size + 1, 0, none⟩) (top + 1) (top + 1)) (upL (partN f need top k).1)) ∧ Hid (SetN wr (w.heap.size + 1) n need) ∧ Hid (Below w.heap.size w wr) ∧ w2.heap.size ≤ wr.heap.size ∧ BoxAt wr w.heap.size (.slice none 0 0)) (fun i _ => top + 1 - (intOf i).toNat)
      case atStart => exact ⟨0, none, 0, [], Nat.zero_le _, rfl, HF2, ⟨hpc2, hpf2⟩, HP2, HS2, HB2, Nat.le_refl _, hbx2⟩
      case round =>
        obtain ⟨k, a, cn, vs, hk, rfl, hF, hpB, hP, hS, hbw, hsz, hbx⟩ := hrel
        clear HF2 hpc2 hpf2 HP2 HS2 HB2 hbx2
        by_cases hkt : k < top + 1
        · obtain ⟨nd, hx⟩ := lt_get (l := f) (i := k) (by omega)
          have hn24 := HN.out nd (List.mem_of_getElem? hx)
          have HX : Hid (∀ x, x ∈ nd.1 ∨ x ∈ nd.2 → x < k) := Lib.hid (fun x h => HU.out k nd hx x h)
          have C := Lib.hid (fun (W : World) (hW : Below wr.heap.size wr W) => setHas_calls (w.heap.size + 1) n k need W (hS.out.kept (grownBy_below' hW none) (by simp)) (by omega))
          obtain ⟨b, off, c', v1, v2, e1, hbh, p1, p2, i1, i2⟩ := nodes_atP (HV.out.below hbw.out hh) hx
          obtain ⟨q1, _, q3⟩ := slice_inj e1
          subst q1 q3
          obtain ⟨a1, d1, rfl, hd1⟩ := ints_lenP i1
          obtain ⟨a2, d2, rfl, hd2⟩ := ints_lenP i2
          have k0 : (0 : Int) ≤ k := by omega
          have k1 : (k : Int) < (top : Int) + 1 := by omega
          have HI1 := Lib.hid i1
          have HI2 := Lib.hid i2
          have HXX := Lib.hid hx
          clear e1 i1 i2 hx
          obtain ⟨r, hr⟩ : ∃ r, need k = r := ⟨_, rfl⟩
          rw [hr] at C
          have HRN := Lib.hid hr
          clear hr
          cases r with
          | false =>
            have HN0 := Lib.hid (partN_no f need top k HRN.out)
            go_wp2_with fail
            refine (C.out _ ((Below.refl _ _).alloc (Nat.le_refl _) _)).mono ?_
            rintro e w4 ⟨rfl, hb4⟩
            have HB : Below wr.heap.size wr w4 := Below.trans ((Below.refl _ _).alloc (Nat.le_refl _) _) (hb4.mono (by simp))
            have R1 : Hid (OwnF w4 w2.heap.size (.slice a (partN f need top (k + 1)).2.length cn) vs ((partN f need top (k + 1)).2.map upN)) := Lib.hid (by rw [HN0.out]; exact hF.out.below HB)
            have R2 : BoxAt w4 W1.heap.size (.slice a (partN f need top (k + 1)).2.length cn) := by rw [HN0.out]; exact hpB.below HB
            have R3 : Hid (OwnI w4 w.heap.size (.slice (some ⟨W1.heap.size + 1, 0, none⟩) (top + 1) (top + 1)) (upL (partN f need top (k + 1)).1)) := Lib.hid (by rw [HN0.out]; exact hP.out.below HB)
            have R4 := Lib.hid (hS.out.kept (grownBy_below' HB none) (by simp))
            have R5 := Lib.hid (hbw.out.trans (HB.mono hbw.out.size))
            have R6 := hbx.below HB
            have hz4 := HB.size
            clear hb4 HB hF hpB hP hS hbw hbx C HI1 HI2 p1 p2 HN0
            go_wp2_with fail
            go_roundw
            case rel => exact ⟨k + 1, a, cn, vs, by omega, by go_num, R1, R2, R3, R4, R5, by omega, R6⟩
            case measure => first | (simp [intOf]; done) | (simp [intOf]; omega)
          | true =>
            have HN1 := Lib.hid (partN_yes f need top k nd HRN.out HXX.out HX.out)
            have hQl := partN_alen f need top k
            have hLl := partN_llen f need top k
            generalize hQ : (partN f need top k).1 = Q at hP HN1 hQl
            generalize hN0 : (partN f need top k).2 = N at hF hpB HN1 hLl
            go_wp2_with fail
            refine (C.out _ ((Below.refl _ _).alloc (Nat.le_refl _) _)).mono ?_
            rintro e w4 ⟨rfl, hb4⟩
            have HB : Below wr.heap.size wr w4 := Below.trans ((Below.refl _ _).alloc (Nat.le_refl _) _) (hb4.mono (by simp))
            have n1 : w4.cell? ⟨wr.heap.size, 0, none⟩ = some (.slice a1 nd.1.length d1) := (bcell hb4 _ _ (by simp)).trans (by go_simp)
            have n2 : w4.cell? ⟨wr.heap.size, 1, none⟩ = some (.slice a2 nd.2.length d2) := (bcell hb4 _ _ (by simp)).trans (by go_simp)
            have hwl := block_of_cell n1
            have F4 := hF.out.below HB
            have P4 := hP.out.below HB
            have S4 := hS.out.kept (grownBy_below' HB none) (by simp)
            have B4 := hbw.out.trans (HB.mono hbw.out.size)
            have X4 := hbx.below HB
            have Y4 := hpB.below HB
            obtain ⟨qv, hqv⟩ := lt_get (l := upL Q) (i := k) (by rw [upL_len]; omega)
            obtain ⟨qc, qf⟩ := P4.at_ hqv
            have PT := P4.put (x := k) (v := (N.length : Int))
            rw [upL_set] at PT
            have O5 : Only w4 (w4.setCell ⟨W1.heap.size + 1, k, none⟩ (.int .i64 (N.length : Int))) (fun b => b = W1.heap.size + 1) := PT.2.mono (fun i _ e => (own_eqp e).symm)
            have F5 := Lib.hid (F4.only O5 (fun g h1 h2 e => by omega))
            have P5 := Lib.hid PT.1
            have S5 := Lib.hid (S4.setCell (p := ⟨W1.heap.size + 1, k, none⟩) (by show w.heap.size + 1 ≠ W1.heap.size + 1; have := S4.other qc; omega) (.int .i64 (N.length : Int)))
            have hz4 := HB.size
            have B45 : Below w.heap.size w4 (w4.setCell ⟨W1.heap.size + 1, k, none⟩ (.int .i64 (N.length : Int))) := O5.below (by omega) (fun g e => by omega)
            have B5 := Lib.hid (B4.trans B45)
            have X5 := X4.only O5 (by omega)
            have Y5 := Y4.only O5 (by omega)
            have m1 := (O5.cell (o := 0) hwl (by omega)).trans n1
            have m2 := (O5.cell (o := 1) hwl (by omega)).trans n2
            have J1 := Lib.hid ((HI1.out.below HB (by have := hbw.out.size; omega)).below B45 hh)
            have J2 := Lib.hid ((HI2.out.below HB (by have := hbw.out.size; omega)).below B45 hh)
            have hz5 : (w4.setCell ⟨W1.heap.size + 1, k, none⟩ (.int .i64 (N.length : Int))).heap.size = w4.heap.size := by simp
            obtain ⟨pc4, pf4⟩ := Y4
            clear hb4 HB hF hpB hP hS hbw hbx C HI1 HI2 p1 p2 F4 P4 S4 B4 X4 PT O5 B45
            go_upto_region 16 with fail
            generalize (w4.setCell ⟨W1.heap.size + 1, k, none⟩ (.int .i64 (N.length : Int))) = w5 at F5 P5 S5 B5 X5 Y5 m1 m2 J1 J2 hz5 ⊢
            obtain ⟨pc5, pf5⟩ := Y5
            have hpl := block_of_cell pc5
            have hwl5 := block_of_cell m1
            have hs52 : w2.heap.size ≤ w5.heap.size := by omega
            have hsP5 : w.heap.size + 1 ≠ W1.heap.size := fun e => S5.out.other pc5 e.symm
            have hrP5 : w.heap.size ≠ W1.heap.size := fun e => by omega
            have PI := Lib.hid P5.out.ints
            have CMa := Lib.hid fun (W : World) (hW : Below w5.heap.size w5 W) => CM (.slice a1 nd.1.length d1) (.slice (some ⟨W1.heap.size + 1, 0, none⟩) (top + 1) (top + 1)) nd.1 (Q.set k N.length) W lo hi w.heap.size w5.heap.size (by have := hW.size; have := B5.out.size; omega) hW.size (J1.out.below hW (by have := B5.out.size; omega)) (PI.out.below hW (Nat.le_refl _)) (fun x hx => by rw [List.length_set]; have := HX.out x (Or.inl hx); omega) (by omega) (by rw [List.length_set]; omega)
            have CMb := Lib.hid fun (W : World) (hW : Below w5.heap.size w5 W) => CM (.slice a2 nd.2.length d2) (.slice (some ⟨W1.heap.size + 1, 0, none⟩) (top + 1) (top + 1)) nd.2 (Q.set k N.length) W lo hi w.heap.size w5.heap.size (by have := hW.size; have := B5.out.size; omega) hW.size (J2.out.below hW (by have := B5.out.size; omega)) (PI.out.below hW (Nat.le_refl _)) (fun x hx => by rw [List.length_set]; have := HX.out x (Or.inr hx); omega) (by omega) (by rw [List.length_set]; omega)
            have HMV : Hid (∀ L1 L2, sortd (nd.1.map (fun x => (Q.set k N.length).getD x 0)) = L1 → sortd (nd.2.map (fun x => (Q.set k N.length).getD x 0)) = L2 → (partN f need top (k + 1)).2 = N ++ [(L1, L2)]) := Lib.hid (fun L1 L2 e1 e2 => by rw [HN1.out.2]; unfold movd; rw [← e1, ← e2])
            have HQ1 : Hid ((partN f need top (k + 1)).1 = Q.set k N.length) := Lib.hid HN1.out.1
            obtain ⟨L1, hL1⟩ : ∃ L, sortd (nd.1.map (fun x => (Q.set k N.length).getD x 0)) = L := ⟨_, rfl⟩
            obtain ⟨L2, hL2⟩ : ∃ L, sortd (nd.2.map (fun x => (Q.set k N.length).getD x 0)) = L := ⟨_, rfl⟩
            have HM2 := Lib.hid (HMV.out L1 L2 hL1 hL2)
            rw [hL1] at CMa
            rw [hL2] at CMb
            have hbd : Below w5.heap.size w5 w5.drew := below_drewN (Below.refl _ _) 1
            have hNl : N.length ≤ 200 := by omega
            have hNu : (N.map upN).length = N.length := by simp
            clear HN1 HMV hL1 hL2 hQ hN0 qc qf hqv n1 n2 hwl pc4 pf4 hz5 J1 J2 PI
            have hS0 : w5.drew.cell? ⟨wr.heap.size, 0, none⟩ = some (.slice a1 nd.1.length d1) ∧ w5.drew.cell? ⟨wr.heap.size, 1, none⟩ = some (.slice a2 nd.2.length d2) := ⟨m1, m2⟩
            have pd5 : w5.drew.cell? ⟨W1.heap.size, 0, none⟩ = some (.slice a N.length cn) := pc5
            go_region_law (first
              | (refine step_app_nd_at rfl _ _ rfl ((F5.out.below HBb).below ((Below.refl _ _).alloc (Nat.le_refl _) _)).nodes rfl (src_nd (B := wb.heap.size) (v1 := .slice (some ⟨g1, 0, none⟩) L1.length c1) (v2 := .slice (some ⟨g2, 0, none⟩) L2.length c2) (by go_simp) (by go_simp) rfl rfl) rfl (by rw [hNu]; omega) (by have := HBc.size; omega) ?_; intro v7 w7 hown7 hgrow7 hat7; obtain ⟨g7, c7, rfl, _, _⟩ := hown7.form (by omega); obtain ⟨R1, o57, hz57⟩ := part_push (P := W1.heap.size) F5.out hs52 (by omega) (Nat.le_refl _) ho1 HBa ho2 hbb hown7 hgrow7 hat7; have p7c := (o57.cell (o := 0) hpl (by omega)).trans pc5; have p7f := (o57.frozen (o := 0) hpl (by omega)).trans pf5)
              | (go_simp; go_at_call 83; (with_reducible refine (CMa.out _ hbd).mono ?_); rintro e wa ⟨g1, c1, rfl, ho1, hba⟩; have HBa : Below w5.heap.size w5 wa := hbd.trans (hba.mono (by simp)); have pda := (bcell HBa _ _ hpl).trans pc5; have ma1 := (bcell HBa _ _ hwl5).trans m1; have ma2 := (bcell HBa _ _ hwl5).trans m2)
              | (go_simp; go_at_call 83; (with_reducible refine (CMb.out wa HBa).mono ?_); rintro e wb ⟨g2, c2, rfl, ho2, hbb⟩; have HBb : Below w5.heap.size w5 wb := HBa.trans (hbb.mono HBa.size); have pdb := (bcell HBb _ _ hpl).trans pc5; have HBc : Below w5.heap.size w5 (wb.alloc (.cells #[.slice (some ⟨g1, 0, none⟩) L1.length c1, .slice (some ⟨g2, 0, none⟩) L2.length c2] 57)) := HBb.trans (((Below.refl _ _).alloc (Nat.le_refl _) _).mono HBb.size); have pdc := (bcell HBc _ _ hpl).trans pc5))
            all_goals
              obtain ⟨N1, N2, N3, N4, N5, N6⟩ := part_next (v7 := .slice (some ⟨g7, 0, none⟩) ((N.map upN).length + 1) c7) o57 hs52 (by omega) ⟨pc5, pf5⟩ P5.out hgp (by omega) S5.out hsS hsP5 X5 (by omega) hrP5 B5.out hsz1
              rw [hNu] at R1 N1 N2 N3 N4 N5 N6
              have hRL : (N ++ [(L1, L2)]).length = N.length + 1 := by simp
              have R1' : Hid (OwnF (w7.setCell ⟨W1.heap.size, 0, none⟩ (.slice (some ⟨g7, 0, none⟩) (N.length + 1) c7)) w2.heap.size (.slice (some ⟨g7, 0, none⟩) (partN f need top (k + 1)).2.length c7) (vs ++ [(.slice (some ⟨g1, 0, none⟩) L1.length c1, .slice (some ⟨g2, 0, none⟩) L2.length c2)]) ((partN f need top (k + 1)).2.map upN)) := Lib.hid (by
                rw [HM2.out, hRL, List.map_append]
                exact R1.out)
              have N1' : BoxAt (w7.setCell ⟨W1.heap.size, 0, none⟩ (.slice (some ⟨g7, 0, none⟩) (N.length + 1) c7)) W1.heap.size (.slice (some ⟨g7, 0, none⟩) (partN f need top (k + 1)).2.length c7) := by
                rw [HM2.out, hRL]
                exact N1
              rw [← HQ1.out] at N2
              clear R1 N1 hown7 hgrow7 hat7 o57 p7c p7f pdc HBc pdb HBb hbb ho2 HBa hba ho1 pda ma1 ma2 CMa CMb F5 P5 S5 B5 X5 pc5 pf5 m1 m2 hS0 pd5 hbd HX
              go_wp2_with fail
              go_roundw
              case rel => exact ⟨k + 1, some ⟨g7, 0, none⟩, c7, _, by omega, by go_num, R1', N1', N2, N3, N4, N5, N6⟩
              case measure => first | (simp [intOf]; done) | (simp [intOf]; omega)
        · have hke : k = top + 1 := by omega
          subst hke
          obtain ⟨bx1, bx2⟩ := hbx
          obtain ⟨hpc, hpf⟩ := hpB
          obtain ⟨N2, hN2⟩ : ∃ N2, (partN f need top (top + 1)).2 = N2 := ⟨_, rfl⟩
          have HPI : Hid (partI f top = N2) := Lib.hid (by unfold partI; rw [HNE.out]; exact hN2)
          rw [hN2] at hF hpc
          have hFr : Hid (OwnF (wr.setCell ⟨w.heap.size, 0, none⟩ (.slice a N2.length cn)) w.heap.size (.slice a N2.length cn) vs (N2.map upN)) := Lib.hid ((hF.out.setCell (by show w.heap.size < w2.heap.size; omega)).mono (by omega))
          have hBr : Hid (Below w.heap.size w (wr.setCell ⟨w.heap.size, 0, none⟩ (.slice a N2.length cn))) := Lib.hid (hbw.out.setCell (Nat.le_refl _) _)
          have hcr := World.cell?_setCell_same wr ⟨w.heap.size, 0, none⟩ (.slice a N2.length cn) bx1
          clear hF hP hS hbw hN2
          go_wp2_with fail
          refine bodyPost_ret (v := .agg #[.slice a N2.length cn]) (by simp [results, Try.results49, go_sem, hcr]) rfl ?_
          rw [HPI.out]
          exact ⟨_, _, rfl, ⟨vs, hFr.out⟩, hBr.out⟩
    | succ m =>
      have hcast : (((m + 1 : Nat) : Int) - 1) = (m : Int) := by omega
      rw [hcast]
      obtain ⟨nd, hx⟩ := lt_get (l := f) (i := m) (by omega)
      have hn24 := HN.out nd (List.mem_of_getElem? hx)
      have HX : Hid (∀ x, x ∈ nd.1 ∨ x ∈ nd.2 → x < m) := Lib.hid (fun x h => HU.out m nd hx x h)
      have HD : Hid (reachD f m (if o.getD m false then markAll (markAll o nd.1) nd.2 else o) = reachF f top) := Lib.hid (by
        have h := hrd.out
        unfold reachD at h
        rw [show f.getD m ([], []) = nd from by rw [List.getD_eq_getElem?_getD, hx]; rfl] at h
        exact h)
      have C := Lib.hid (setHas_calls (w.heap.size + 1) n m _ wr hset.out (by omega))
      have k0 : (0 : Int) ≤ m := by omega
      have k1 : (m : Int) < f.length := by omega
      clear hrd hcast
      obtain ⟨r, hr⟩ : ∃ r, o.getD m false = r := ⟨_, rfl⟩
      rw [hr] at C HD
      clear hr
      cases r with
      | false =>
        have HD2 : Hid (reachD f m o = reachF f top) := Lib.hid (by simpa using HD.out)
        clear HD
        go_wp2_with fail
        refine C.out.mono ?_
        rintro e w2 ⟨rfl, hb2⟩
        have S2 := Lib.hid (hset.out.kept (grownBy_below' hb2 none) (by simp))
        have B2 := Lib.hid (hb.out.trans (hb2.mono hb.out.size))
        have bx2 := hbx.below hb2
        clear hb2 hset hb hbx C
        go_wp2_with fail
        go_roundw
        case rel => exact ⟨m, n, o, by omega, by go_num, hol, by omega, HD2, S2, B2, bx2⟩
        case measure => first | (simp [intOf]; done) | (simp [intOf]; omega)
      | true =>
        have HD2 : Hid (reachD f m (markAll (markAll o nd.1) nd.2) = reachF f top) := Lib.hid (by simpa using HD.out)
        clear HD
        go_wp2_with fail
        refine C.out.mono ?_
        rintro e w2 ⟨rfl, hb2⟩
        have S2 := Lib.hid (hset.out.kept (grownBy_below' hb2 none) (by simp))
        have B2 := Lib.hid (hb.out.trans (hb2.mono hb.out.size))
        have bx2 := hbx.below hb2
        obtain ⟨b, off, c', v1, v2, e1, hbh, p1, p2, i1, i2⟩ := nodes_atP (HV.out.below B2.out hh) hx
        obtain ⟨q1, _, q3⟩ := slice_inj e1
        subst q1 q3
        obtain ⟨a1, d1, rfl, hd1⟩ := ints_lenP i1
        obtain ⟨a2, d2, rfl, hd2⟩ := ints_lenP i2
        have C1 := Lib.hid (setAdd_calls (w.heap.size + 1) n _ _ nd.1 w2 lo hi S2.out i1 (fun x hx => by have := HX.out x (Or.inl hx); omega) (by omega))
        have HI2 := Lib.hid i2
        have b2z := B2.out.size
        clear hb2 hset hb hbx C e1 i1 i2
        go_wp2_with fail
        refine C1.out.mono ?_
        rintro e w3 ⟨rfl, hs3, hg3⟩
        have p2 := grown_cell hg3 (by omega) p2
        have bx3 := bx2.grown hg3 (by simp)
        have B3 : Hid (Below w.heap.size w w3) := Lib.hid (B2.out.grown hg3 B2.out.size (fun q hq => by injection hq with hq; omega))
        have hi3 : IntsZ w3 lo hi (.slice a2 nd.2.length d2) (upL nd.2) := HI2.out.keep (fun b' o h1 h2 => World.cell?_of_block (a := ⟨b', o, none⟩) (hg3.block b' (by show b' < _; omega) (by simp; omega)))
        have C2 := Lib.hid (setAdd_calls (w.heap.size + 1) _ _ _ nd.2 w3 lo hi hs3 hi3 (fun x hx => by have := HX.out x (Or.inr hx); omega) (by omega))
        clear hs3 hg3 C1 HI2 hi3 p1 bx2 B2 S2
        go_wp2_with fail
        refine C2.out.mono ?_
        rintro e w4 ⟨rfl, hs4, hg4⟩
        have bx4 := bx3.grown hg4 (by simp)
        have B4 : Hid (Below w.heap.size w w4) := Lib.hid (B3.out.grown hg4 B3.out.size (fun q hq => by injection hq with hq; omega))
        have S4 : Hid (SetN w4 (w.heap.size + 1) (n + nd.1.length + nd.2.length) (fun y => (markAll (markAll o nd.1) nd.2).getD y false)) := Lib.hid (setN_congr hs4 (fun x => by
          rw [markAll_get _ _ _ (fun y hy => by rw [markAll_len]; have := HX.out y (Or.inr hy); omega), markAll_get _ _ _ (fun y hy => by have := HX.out y (Or.inl hy); omega)]
          by_cases e1 : x ∈ nd.1 <;> by_cases e2 : x ∈ nd.2 <;> simp [e1, e2]))
        have hol4 : (markAll (markAll o nd.1) nd.2).length = top + 1 := by rw [markAll_len, markAll_len]; exact hol
        clear hs4 hg4 C2 p2 bx3 B3
        go_wp2_with fail
        go_roundw
        case rel => exact ⟨m, n + nd.1.length + nd.2.length, _, by omega, by go_num, hol4, by omega, HD2, S4, B4, bx4⟩
        case measure => first | (simp [intOf]; done) | (simp [intOf]; omega)
end

section
open Go.RowKit
set_option linter.unusedVariables false
set_option linter.unusedSimpArgs false
theorem goodI_resP (v : Value) (f : List Nz) (r : Bool) (hr : Hid (goodB f = r)) (w : World) (lo hi : Nat) (hh : hi ≤ w.heap.size) (hv : NodesZ w lo hi v f) :
    Calls Try.prog 48 #[.agg #[v]] w fun e w' => e = .returned (.bool r) ∧ Below w.heap.size w w' := by
  rw [← hr.out]
  exact goodI_calls v f w lo hi hh hv
theorem movedC : MovedC := movedI_calls
/-- is there a part? -/
def partB (f : List Nz) (i : Int) : Bool := goodB f && (decide (0 ≤ i) && decide (i < f.length))
/-- the part, or nothing -/
def partV (f : List Nz) (i : Int) : List Nz := if partB f i then (partI (f.map downN) i.toNat).map upN else []
theorem partV_no {f : List Nz} {i : Int} (h : partB f i = false) : partV f i = [] := by unfold partV; rw [h]; rfl
theorem partV_yes {f : List Nz} {i : Nat} (h : partB f (i : Int) = true) : partV f (i : Int) = (partI (f.map downN) i).map upN := by unfold partV; rw [h]; rfl
theorem partB_good {f : List Nz} (h : goodB f = true) (i : Nat) (hi : i < f.length) : partB f (i : Int) = true := by
  unfold partB
  rw [h]
  simp [hi]
set_option maxHeartbeats 1000000 in
theorem partAtI_calls (va : Value) (f g : List Nz) (i : Int) (ok : Bool) (hok : Hid (partB f i = ok)) (hg : Hid (partV f i = g)) (w : World) (lo hi : Nat) (hh : hi ≤ w.heap.size) (hva : NodesZ w lo hi va f) :
    Calls Try.prog 20 #[.agg #[va], .int .i64 i] w fun e w' => ∃ a c vs, e = .returned (.tuple #[.agg #[.slice a g.length c], .bool ok]) ∧ OwnF w' w.heap.size (.slice a g.length c) vs g ∧ Below w.heap.size w w' := by
  obtain ⟨r, hr⟩ : ∃ r, goodB f = r := ⟨_, rfl⟩
  have HB0 := Lib.hid fun o o' => show Below w.heap.size w ((w.alloc o).alloc o') from ((Below.refl _ _).alloc (Nat.le_refl _) _).alloc (by simp) _
  have CG := Lib.hid fun (W : World) (hW : Below w.heap.size w W) => goodI_resP va f r (Lib.hid hr) W lo hi (Nat.le_trans hh hW.size) (hva.below hW hh)
  have HVA := Lib.hid fun (W : World) (hW : Below w.heap.size w W) => hva.below hW hh
  obtain ⟨ao, c0, rfl⟩ : ∃ ao c, va = .slice ao f.length c := by obtain ⟨ao, c, e, _⟩ := hva; exact ⟨ao, c, e⟩
  have HRR := Lib.hid hr
  clear hva hr
  go_enter Try.func20, Try.ntmps20
  go_wp2_with fail
  refine (CG.out _ (HB0.out _ _)).mono ?_
  rintro e w4 ⟨rfl, hb4⟩
  have k0 : w4.cell? ⟨w.heap.size, 0, none⟩ = some (.slice ao f.length c0) := (bcell hb4 _ _ (by simp; omega)).trans (by go_simp)
  obtain ⟨d0, z0⟩ : BoxAt w4 (w.heap.size + 1) (.slice none 0 0) := BoxAt.below ⟨by go_simp, by go_simp⟩ hb4
  have HB4 := Lib.hid (Below.trans (HB0.out _ _) (hb4.mono (by simp; omega)))
  have HB4s : Hid (Below w.heap.size w (w4.setCell ⟨w.heap.size + 1, 0, none⟩ (.slice none 0 0))) := Lib.hid (HB4.out.setCell (by show w.heap.size ≤ w.heap.size + 1; omega) _)
  have hcr := World.cell?_setCell_same w4 ⟨w.heap.size + 1, 0, none⟩ (.slice none 0 0) d0
  clear hb4 CG
  have HNO : Hid (ok = false → g = []) := Lib.hid (fun h => by rw [← hg.out, partV_no (by rw [hok.out]; exact h)])
  have HF0 : ∀ W base, OwnF W base (.slice none ([] : List Nz).length 0) [] [] := fun W base => OwnF.nil W base
  cases r with
  | false =>
    obtain rfl : ok = false := by rw [← hok.out]; unfold partB; rw [HRR.out]; rfl
    obtain rfl : g = [] := HNO.out rfl
    go_wp2_with fail
    exact bodyPost_ret (v := .tuple #[.agg #[.slice none 0 0], .bool false]) (by simp [results, Try.results20, go_sem, hcr]) rfl ⟨none, 0, [], rfl, HF0 _ _, HB4s.out⟩
  | true =>
    by_cases h1 : i < 0
    · obtain rfl : ok = false := by rw [← hok.out]; unfold partB; rw [HRR.out, decide_eq_false (by omega)]; rfl
      obtain rfl : g = [] := HNO.out rfl
      go_wp2_with fail
      exact bodyPost_ret (v := .tuple #[.agg #[.slice none 0 0], .bool false]) (by simp [results, Try.results20, go_sem, hcr]) rfl ⟨none, 0, [], rfl, HF0 _ _, HB4s.out⟩
    · by_cases h2 : (f.length : Int) ≤ i
      · obtain rfl : ok = false := by rw [← hok.out]; unfold partB; rw [HRR.out, decide_eq_false (show ¬ i < (f.length : Int) by omega)]; simp
        obtain rfl : g = [] := HNO.out rfl
        go_wp2_with fail
        exact bodyPost_ret (v := .tuple #[.agg #[.slice none 0 0], .bool false]) (by simp [results, Try.results20, go_sem, hcr]) rfl ⟨none, 0, [], rfl, HF0 _ _, HB4s.out⟩
      · obtain ⟨n, rfl⟩ : ∃ n : Nat, i = (n : Int) := ⟨i.toNat, by omega⟩
        have hnl : n < f.length := by omega
        have hpb := partB_good HRR.out n hnl
        obtain rfl : ok = true := by rw [← hok.out]; exact hpb
        have hgv : (partI (f.map downN) n).map upN = g := by rw [← hg.out, partV_yes hpb]
        obtain ⟨hf1, hf2, _⟩ := (goodB_iff f).1 HRR.out
        have e1 : (f.map downN).length = f.length := by simp
        have C := Lib.hid fun (W : World) (hW : Below w.heap.size w W) => partOf_calls movedC (.slice ao f.length c0) (f.map downN) n W lo hi (Nat.le_trans hh hW.size) (by rw [hf2.up.1]; exact HVA.out W hW) hf2.up.2.under (by rw [e1]; exact hnl) (by rw [e1]; exact hf1.2.1) (fun nd hnd => by
          obtain ⟨x, hx, rfl⟩ := List.mem_map.1 hnd
          have := hf1.2.2 x hx
          simpa [downN, downL] using this)
        have hgl : (partI (f.map downN) n).length = g.length := by rw [← hgv]; simp
        rw [hgv, hgl] at C
        clear hf1 hf2 e1 hgv hgl hpb HRR HNO hok hg
        go_wp2_with fail
        refine (C.out _ HB4.out).mono ?_
        rintro e w5 ⟨a, c, vs, rfl, ho, hb5⟩
        obtain ⟨d5, z5⟩ : BoxAt w5 (w.heap.size + 1) (.slice none 0 0) := BoxAt.below ⟨d0, z0⟩ hb5
        have hlt := block_of_cell d0
        have HO : Hid (OwnF (w5.setCell ⟨w.heap.size + 1, 0, none⟩ (.slice a g.length c)) w.heap.size (.slice a g.length c) vs g) := Lib.hid ((ho.setCell (by exact hlt)).mono HB4.out.size)
        have HB5 : Hid (Below w.heap.size w (w5.setCell ⟨w.heap.size + 1, 0, none⟩ (.slice a g.length c))) := Lib.hid ((HB4.out.trans (hb5.mono HB4.out.size)).setCell (by show w.heap.size ≤ w.heap.size + 1; omega) _)
        have hcr5 := World.cell?_setCell_same w5 ⟨w.heap.size + 1, 0, none⟩ (.slice a g.length c) d5
        clear hb5 ho hcr d0 z0 hlt
        go_wp2_with fail
        exact bodyPost_ret (v := .tuple #[.agg #[.slice a g.length c], .bool true]) (by simp [results, Try.results20, go_sem, hcr5]) rfl ⟨a, c, vs, rfl, HO.out, HB5.out⟩
end

section
open Go.RowKit
set_option linter.unusedVariables false
set_option linter.unusedSimpArgs false
/-- the parts so far, and empty forms -/
def partsK (f : List Nd) (L : List Nat) (k : Nat) : List (List Nz) := (L.take k).map (fun x => (partI f x).map upN) ++ List.replicate (L.length - k) []
theorem partsK_len (f : List Nd) (L : List Nat) (k : Nat) (h : k ≤ L.length) : (partsK f L k).length = L.length := by simp [partsK]; omega
theorem partsK_all (f : List Nd) (L : List Nat) : partsK f L L.length = L.map (fun x => (partI f x).map upN) := by simp [partsK]
theorem partsK_set (f : List Nd) (L : List Nat) (k x : Nat) (h : L[k]? = some x) : (partsK f L k).set k ((partI f x).map upN) = partsK f L (k + 1) := by
  have hk := get_lt h
  unfold partsK
  have e1 : ((L.take k).map (fun x => (partI f x).map upN)).length = k := by simp; omega
  rw [List.set_append_right _ _ (by rw [e1]; exact Nat.le_refl _), e1, Nat.sub_self, show L.length - k = (L.length - (k + 1)) + 1 from by omega, List.replicate_succ, List.set_cons_zero, List.take_add_one, h, List.map_append, List.append_assoc]
  rfl
set_option maxRecDepth 100000 in
set_option maxHeartbeats 1000000 in
theorem partsI_calls (v vt : Value) (f : List Nd) (L : List Nat) (w : World) (lo hi lo' hi' : Nat) (hh : hi ≤ w.heap.size) (hh' : hi' ≤ w.heap.size) (hv : NodesZ w lo hi v (f.map upN)) (ht : IntsZ w lo' hi' vt (upL L)) (hu : Under f) (hL : ∀ x ∈ L, x < f.length) (hl : f.length ≤ 120) (hl2 : L.length ≤ 1000) (hn : ∀ nd ∈ f, nd.1.length ≤ 24 ∧ nd.2.length ≤ 24) :
    Calls Try.prog 52 #[v, vt] w fun e w' => ∃ g ps, e = .returned (.slice (some ⟨g, 0, none⟩) L.length L.length) ∧ OwnFS w' w.heap.size (.slice (some ⟨g, 0, none⟩) L.length L.length) ps (L.map (fun x => (partI f x).map upN)) ∧ Below w.heap.size w w' := by
  obtain ⟨i0, hi0, hz0, hz1, hz2⟩ := info_parts infoFormA
  obtain ⟨at', ct, rfl, hct⟩ := ints_lenP ht
  obtain ⟨av, cv, hve, hcv⟩ : ∃ av cv, v = .slice av f.length cv ∧ f.length ≤ cv := by obtain ⟨ao, c, e, h1, _⟩ := hv; rw [List.length_map] at e h1; exact ⟨ao, c, e, h1.1⟩
  subst hve
  have HT := Lib.hid ht
  have HLL := Lib.hid hL
  have C := Lib.hid fun (W : World) (hW : Below w.heap.size w W) (x : Nat) (hx : x < f.length) => partOf_calls movedC (.slice av f.length cv) f x W lo hi (Nat.le_trans hh hW.size) (hv.below hW hh) hu hx hl hn
  clear hv ht hu hL hn
  go_enter Try.func52, Try.ntmps52
  go_wp2_with (at_make; refine wpList_make_full _ rfl _ _ 24 rfl w.heap.size 28 i0 (.agg #[.slice none 0 0]) 1 Try.underlying24 hi0 hz0 hz1 _ _ _ _ L.length rfl rfl rfl rfl (by rw [hz2]; omega) (by unfold maxLen; omega) (Nat.le_refl _) ?_; intro w1 hown hg)
  have HO : Hid (OwnFS w1 w.heap.size (.slice (some ⟨w.heap.size, 0, none⟩) (partsK f L 0).length L.length) (List.replicate L.length (.slice none 0 0, [])) (partsK f L 0)) := Lib.hid (by
    have e : (madeCells (Value.agg #[.slice none 0 0]).cells (L.length * 1)).toList = List.replicate L.length (.slice none 0 0) := by
      show (madeCells #[Value.slice none 0 0] (L.length * 1)).toList = _
      rw [Nat.mul_one, made_one]
    rw [e] at hown
    rw [partsK_len f L 0 (Nat.zero_le _)]
    have h := ownFS_made hown
    simpa [partsK] using h)
  have HB : Hid (Below w.heap.size w w1) := Lib.hid ((Below.refl _ _).grown hg (Nat.le_refl _) (fun k hk => by cases hk))
  clear hown hg
  rw [partsK_len f L 0 (Nat.zero_le _)] at HO
  go_wp2
  go_loopw [13] (fun i wr => ∃ (k : Nat) (ps : List (Value × List (Value × Value))), k ≤ L.length ∧ i = .int .i64 k ∧ Hid (OwnFS wr w.heap.size (.slice (some ⟨w.heap.size, 0, none⟩) L.length L.length) ps (partsK f L k)) ∧ Hid (Below w.heap.size w wr)) (fun i _ => L.length - (intOf i).toNat)
  case atStart => exact ⟨0, _, Nat.zero_le _, rfl, HO, HB⟩
  case round =>
    obtain ⟨k, ps, hk, rfl, ho, hb⟩ := hrel
    clear HO HB
    by_cases hlt : k < L.length
    · obtain ⟨x, hx⟩ := lt_get hlt
      have hxf := HLL.out x (List.mem_of_getElem? hx)
      obtain ⟨b1, o1, rfl, _, q1⟩ := ints_atP (HT.out.below hb.out hh') hx
      have C1 := Lib.hid (C.out wr hb.out x hxf)
      have hst := partsK_set f L k x hx
      have hpl := partsK_len f L k hk
      obtain ⟨P0, hP0⟩ : ∃ P0, partI f x = P0 := ⟨_, rfl⟩
      rw [hP0] at C1 hst
      have HST := Lib.hid hst
      have k0 : (0 : Int) ≤ k := by omega
      have k1 : (k : Int) < L.length := by omega
      clear hst hP0
      go_wp2_with fail
      refine C1.out.mono ?_
      rintro e w2 ⟨a, c, vs, rfl, hF, hb2⟩
      have ho2 := ho.out.below hb2
      obtain ⟨f0, hf0⟩ := lt_get (l := partsK f L k) (i := k) (by rw [hpl]; exact hlt)
      obtain ⟨g', c', p, e1, hp, hc, _⟩ := ho2.form_at hf0
      have hg' : w.heap.size = g' := by
        injection e1 with e1
        injection e1 with e1
        injection e1
      subst hg'
      clear e1
      have hfz := World.ownsRow.frozenAt (show w2.ownsRow w.heap.size 28 1 (.slice (some ⟨w.heap.size, 0, none⟩) (partsK f L k).length L.length) (partsK f L k).length (ps.map Prod.fst) from by have h := ho2.row; rw [hpl] at h ⊢; exact h) k
      have hall : ∀ b, AllFS (.slice (some ⟨w.heap.size, 0, none⟩) L.length L.length) ps b → b < wr.heap.size := fun b hb => (ho.out.allS hb).2
      have hput := OwnFS.put (w := w2) (base := w.heap.size) (j := k) (g := w.heap.size) (c := L.length) (N := wr.heap.size) (ps := ps) (Fs := partsK f L k) (f := P0.map upN) (p := (.slice a P0.length c, vs)) (by rw [hpl]; exact ho2) (by rw [hpl]; exact hlt) (hF.mono hb.out.size) (fun b hb => (hF.all (p := (.slice a P0.length c, vs)) hb).1) (by rw [hpl]; exact hall)
      rw [HST.out, hpl] at hput
      have R1 := Lib.hid hput
      have R2 : Hid (Below w.heap.size w (w2.setCell ⟨w.heap.size, k, none⟩ (.slice a P0.length c))) := Lib.hid ((hb.out.trans (hb2.mono hb.out.size)).setCell (Nat.le_refl _) _)
      clear hput hall ho2 hf0 hF hb2 ho hb C1 hx hp hpl HST
      go_wp2_with fail
      go_roundw
      case rel => exact ⟨k + 1, _, by omega, by go_num, R1, R2⟩
      case measure => first | (simp [intOf]; done) | (simp [intOf]; omega)
    · have hke : k = L.length := by omega
      subst hke
      have HF := Lib.hid (show OwnFS wr w.heap.size (.slice (some ⟨w.heap.size, 0, none⟩) L.length L.length) ps (L.map (fun x => (partI f x).map upN)) from by have h := ho.out; rw [partsK_all] at h; exact h)
      clear ho
      go_wp2
      go_ret
      exact ⟨_, ps, rfl, HF.out, hb.out⟩
end

section
open Go.RowKit
set_option linter.unusedVariables false
set_option linter.unusedSimpArgs false
/-- the last node -/
def lastN (f : List Nz) : Nd := (f.map downN).getD (f.length - 1) ([], [])
/-- the games of some places -/
def partsF (f : List Nz) (L : List Nat) : List (List Nz) := L.map (fun x => (partI (f.map downN) x).map upN)
/-- a side's options, if the form is good -/
def optV (f : List Nz) (l : Bool) : List (List Nz) := if goodB f then partsF f (if l then (lastN f).1 else (lastN f).2) else []
theorem lastN_at {f : List Nz} (h : 0 < f.length) : (f.map downN)[f.length - 1]? = some (lastN f) := by
  obtain ⟨nd, hnd⟩ := lt_get (l := f.map downN) (i := f.length - 1) (by simp; omega)
  rw [hnd]
  unfold lastN
  rw [List.getD_eq_getElem?_getD, hnd]
  rfl
theorem lastN_small {f : List Nz} (h : goodB f = true) : (lastN f).1.length ≤ 24 ∧ (lastN f).2.length ≤ 24 := by
  have hf := ((goodB_iff f).1 h).1
  have h1 := List.mem_of_getElem? (lastN_at hf.1)
  obtain ⟨x, hx, e⟩ := List.mem_map.1 h1
  rw [← e]
  have := hf.2.2 x hx
  simpa [downN, downL] using this
theorem lastN_lt {f : List Nz} (h : goodB f = true) (x : Nat) (hx : x ∈ (lastN f).1 ∨ x ∈ (lastN f).2) : x < f.length := by
  obtain ⟨hf1, hf2, _⟩ := (goodB_iff f).1 h
  have := hf2.up.2.under _ _ (lastN_at hf1.1) x hx
  omega
theorem partsF_take (f : List Nz) (L : List Nat) (k x : Nat) (h : L[k]? = some x) : partsF f (L.take (k + 1)) = partsF f (L.take k) ++ [(partI (f.map downN) x).map upN] := by
  unfold partsF
  rw [List.take_add_one, h, List.map_append]
  rfl
end

section
open Go.RowKit
set_option linter.unusedVariables false
set_option linter.unusedSimpArgs false
theorem opt3 {w w' : World} {b c d o : Nat} {v1 v2 v3 : Value} (h1 : w.cell? ⟨b, 0, none⟩ = some v1) (h2 : w.cell? ⟨c, 0, none⟩ = some v2) (h3 : w.cell? ⟨d, o, none⟩ = some v3) (hB : Below w.heap.size w w') : w'.cell? ⟨b, 0, none⟩ = some v1 ∧ w'.cell? ⟨c, 0, none⟩ = some v2 ∧ w'.cell? ⟨d, o, none⟩ = some v3 :=
  ⟨(bcell hB b 0 (block_of_cell h1)).trans h1, (bcell hB c 0 (block_of_cell h2)).trans h2, (bcell hB d o (block_of_cell h3)).trans h3⟩
set_option maxRecDepth 100000 in
set_option maxHeartbeats 2000000 in
theorem optionsI_calls (va : Value) (f : List Nz) (G1 G2 : List (List Nz)) (ok : Bool) (hok : Hid (goodB f = ok)) (h1 : Hid (optV f true = G1)) (h2 : Hid (optV f false = G2)) (w : World) (lo hi : Nat) (hh : hi ≤ w.heap.size) (hva : NodesZ w lo hi va f) :
    Calls Try.prog 22 #[.agg #[va]] w fun e w' => ∃ (g1 g2 N : Nat) (p1 p2 : List (Value × List (Value × Value))), e = .returned (.tuple #[.slice (some ⟨g1, 0, none⟩) G1.length G1.length, .slice (some ⟨g2, 0, none⟩) G2.length G2.length, .bool ok]) ∧
      OwnFS w' w.heap.size (.slice (some ⟨g1, 0, none⟩) G1.length G1.length) p1 G1 ∧ OwnFS w' w.heap.size (.slice (some ⟨g2, 0, none⟩) G2.length G2.length) p2 G2 ∧
      (∀ b, AllFS (.slice (some ⟨g1, 0, none⟩) G1.length G1.length) p1 b → b < N) ∧ (∀ b, AllFS (.slice (some ⟨g2, 0, none⟩) G2.length G2.length) p2 b → N ≤ b) ∧ Below w.heap.size w w' := by
  have HB0 := Lib.hid fun o => show Below w.heap.size w (w.alloc o) from ((Below.refl _ _).alloc (Nat.le_refl _) _)
  have CG := Lib.hid fun (W : World) (hW : Below w.heap.size w W) => goodI_resP va f ok hok W lo hi (Nat.le_trans hh hW.size) (hva.below hW hh)
  have HVA := Lib.hid fun (W : World) (hW : Below w.heap.size w W) => hva.below hW hh
  obtain ⟨ao, c0, rfl⟩ : ∃ ao c, va = .slice ao f.length c := by obtain ⟨ao, c, e, _⟩ := hva; exact ⟨ao, c, e⟩
  clear hva
  go_enter Try.func22, Try.ntmps22
  go_wp2_with fail
  refine (CG.out _ (HB0.out _)).mono ?_
  rintro e w4 ⟨rfl, hb4⟩
  have k0 : w4.cell? ⟨w.heap.size, 0, none⟩ = some (.slice ao f.length c0) := (bcell hb4 _ _ (by simp)).trans (by go_simp)
  have HB4 := Lib.hid (Below.trans (HB0.out _) (hb4.mono (by simp)))
  clear hb4 CG
  cases ok with
  | false =>
    obtain rfl : G1 = [] := by rw [← h1.out]; unfold optV; rw [hok.out]; rfl
    obtain rfl : G2 = [] := by rw [← h2.out]; unfold optV; rw [hok.out]; rfl
    have L1 : OwnFS (w4.alloc (.cells #[] 28)) w.heap.size (.slice (some ⟨w4.heap.size, 0, none⟩) 0 0) [] [] := ownFS_made (World.ownsRow_lit (base := w.heap.size) (e := 28) (size := 1) w4 #[] 0 HB4.out.size (by unfold maxLen; omega) rfl)
    have hx : Below w4.heap.size w4 (w4.alloc (.cells #[] 28)) := (Below.refl _ _).alloc (Nat.le_refl _) _
    have L2 : OwnFS ((w4.alloc (.cells #[] 28)).alloc (.cells #[] 28)) w.heap.size (.slice (some ⟨w4.heap.size + 1, 0, none⟩) 0 0) [] [] := by
      have h := World.ownsRow_lit (base := w.heap.size) (e := 28) (size := 1) (w4.alloc (.cells #[] 28)) #[] 0 (by have := HB4.out.size; simp; omega) (by unfold maxLen; omega) rfl
      rw [show (w4.alloc (.cells #[] 28)).heap.size = w4.heap.size + 1 from by simp] at h
      exact ownFS_made h
    have O1 := Lib.hid (L1.below (w' := (w4.alloc (.cells #[] 28)).alloc (.cells #[] 28)) ((Below.refl _ _).alloc (Nat.le_refl _) _))
    have O2 := Lib.hid L2
    have B6 : Hid (Below w.heap.size w ((w4.alloc (.cells #[] 28)).alloc (.cells #[] 28))) := Lib.hid ((HB4.out.alloc HB4.out.size _).alloc (by have := HB4.out.size; simp; omega) _)
    have A1 : Hid (∀ b, AllFS (.slice (some ⟨w4.heap.size, 0, none⟩) 0 0) [] b → b = w4.heap.size) := Lib.hid (fun b hb => by
      rcases hb with hb | ⟨j, p, hp, _⟩
      · injection hb with hb
        exact hb.symm
      · simp at hp)
    have A2 : Hid (∀ b, AllFS (.slice (some ⟨w4.heap.size + 1, 0, none⟩) 0 0) [] b → b = w4.heap.size + 1) := Lib.hid (fun b hb => by
      rcases hb with hb | ⟨j, p, hp, _⟩
      · injection hb with hb
        exact hb.symm
      · simp at hp)
    clear L1 L2 hx
    go_wp2_with fail
    exact bodyPost_ret (v := .tuple #[.slice (some ⟨w4.heap.size, 0, none⟩) 0 0, .slice (some ⟨w4.heap.size + 1, 0, none⟩) 0 0, .bool false]) (by simp [results, Try.results22, go_sem]) rfl ⟨_, _, w4.heap.size + 1, [], [], rfl, O1.out, O2.out, fun b hb => by have := A1.out b hb; omega, fun b hb => by have := A2.out b hb; omega, B6.out⟩
  | true =>
    have hg := hok.out
    obtain ⟨hf1, hf2, _⟩ := (goodB_iff f).1 hg
    have e1 : (f.map downN).length = f.length := by simp
    have l0 := hf1.1
    have l1 := hf1.2.1
    have hsm := lastN_small hg
    have E1 : Hid (partsF f (lastN f).1 = G1) := Lib.hid (by rw [← h1.out]; unfold optV; rw [hg]; rfl)
    have E2 : Hid (partsF f (lastN f).2 = G2) := Lib.hid (by rw [← h2.out]; unfold optV; rw [hg]; rfl)
    have hgl1 : (lastN f).1.length = G1.length := by rw [← E1.out]; simp [partsF]
    have hgl2 : (lastN f).2.length = G2.length := by rw [← E2.out]; simp [partsF]
    have C := Lib.hid fun (W : World) (hW : Below w.heap.size w W) (vt : Value) (L : List Nat) (lo' hi' : Nat) (hh' : hi' ≤ W.heap.size) (ht : IntsZ W lo' hi' vt (upL L)) (hL : ∀ x ∈ L, x < f.length) (hl2 : L.length ≤ 1000) => partsI_calls (.slice ao f.length c0) vt (f.map downN) L W lo hi lo' hi' (Nat.le_trans hh hW.size) hh' (by rw [hf2.up.1]; exact HVA.out W hW) ht hf2.up.2.under (by rw [e1]; exact hL) (by rw [e1]; exact l1) hl2 (fun nd hnd => by
      obtain ⟨x, hx, rfl⟩ := List.mem_map.1 hnd
      have := hf1.2.2 x hx
      simpa [downN, downL] using this)
    obtain ⟨b, off, cc, v1, v2, e, hbh, p1, p2, i1, i2⟩ := nodes_atP (by rw [hf2.up.1]; exact HVA.out w4 HB4.out) (lastN_at l0)
    rw [e1] at e
    obtain ⟨q1, _, q3⟩ := slice_inj e
    subst q1 q3
    obtain ⟨a1, d1, rfl, hd1⟩ := ints_lenP i1
    obtain ⟨a2, d2, rfl, hd2⟩ := ints_lenP i2
    have hn1 : IntKind.i64.wrap ((f.length : Int) - 1) = ((f.length - 1 : Nat) : Int) := by rw [IntWalk.i64_in _ (by omega)]; omega
    have hn2 : ((f.length - 1 : Nat) : Int) < f.length := by omega
    have hlt := Lib.hid (fun x => lastN_lt hg x)
    have hhi := Nat.le_trans hh HB4.out.size
    have HG1 := Lib.hid hgl1
    have HG2 := Lib.hid hgl2
    clear hgl1 hgl2
    generalize lastN f = nd at E1 E2 HG1 HG2 i1 i2 hd1 hd2 p1 p2 hsm hlt
    have hbt : Below w4.heap.size w4 (w4.alloc (.cells #[.slice a1 nd.1.length d1, .slice a2 nd.2.length d2] 57)) := (Below.refl _ _).alloc (Nat.le_refl _) _
    have t0 : (w4.alloc (.cells #[.slice a1 nd.1.length d1, .slice a2 nd.2.length d2] 57)).cell? ⟨w4.heap.size, 0, none⟩ = some (.slice a1 nd.1.length d1) := by go_simp
    have t1 : (w4.alloc (.cells #[.slice a1 nd.1.length d1, .slice a2 nd.2.length d2] 57)).cell? ⟨w4.heap.size, 1, none⟩ = some (.slice a2 nd.2.length d2) := by go_simp
    have I1 := Lib.hid (i1.below hbt hhi)
    have I2 := Lib.hid (i2.below hbt hhi)
    have k0' := (bcell hbt _ _ (block_of_cell k0)).trans k0
    have B5 := Lib.hid (HB4.out.trans (hbt.mono HB4.out.size))
    clear e i1 i2 hbt hf1 hf2 e1 hg h1 h2 hok
    go_upto_region 4 with fail
    generalize (w4.alloc (.cells #[.slice a1 nd.1.length d1, .slice a2 nd.2.length d2] 57)) = w5 at t0 t1 I1 I2 k0' B5 ⊢
    have hbd : Below w5.heap.size w5 w5.drew := below_drewN (Below.refl _ _) 1
    have z0 := block_of_cell k0'
    have z1 := block_of_cell t0
    have hs5 := B5.out.size
    have C1 := Lib.hid fun (W : World) (hW : Below w5.heap.size w5 W) => C.out W (B5.out.trans (hW.mono hs5)) (.slice a1 nd.1.length d1) nd.1 lo hi (by have := hW.size; omega) (I1.out.below hW (by omega)) (fun x hx => hlt.out x (Or.inl hx)) (by omega)
    have C2 := Lib.hid fun (W : World) (hW : Below w5.heap.size w5 W) => C.out W (B5.out.trans (hW.mono hs5)) (.slice a2 nd.2.length d2) nd.2 lo hi (by have := hW.size; omega) (I2.out.below hW (by omega)) (fun x hx => hlt.out x (Or.inr hx)) (by omega)
    have E1' : nd.1.map (fun x => (partI (f.map downN) x).map upN) = G1 := E1.out
    have E2' : nd.2.map (fun x => (partI (f.map downN) x).map upN) = G2 := E2.out
    rw [E1'] at C1
    rw [E2'] at C2
    clear E1' E2'
    have hS0 : w5.drew.cell? ⟨w.heap.size, 0, none⟩ = some (.slice (some ⟨b, off, none⟩) f.length c0) ∧ w5.drew.cell? ⟨w4.heap.size, 0, none⟩ = some (.slice a1 nd.1.length d1) ∧ w5.drew.cell? ⟨w4.heap.size, 1, none⟩ = some (.slice a2 nd.2.length d2) := ⟨k0', t0, t1⟩
    go_region_held3 (fun w' : World => w'.cell? ⟨w.heap.size, 0, none⟩ = some (.slice (some ⟨b, off, none⟩) f.length c0) ∧ w'.cell? ⟨w4.heap.size, 0, none⟩ = some (.slice a1 nd.1.length d1) ∧ w'.cell? ⟨w4.heap.size, 1, none⟩ = some (.slice a2 nd.2.length d2)) (first | exact hS0 | (go_split_ands; exact ⟨‹_›, ‹_›, ‹_›⟩) | exact opt3 k0' t0 t1 (by assumption)) (first
      | (go_at_call 52; (with_reducible refine (C1.out _ hbd).mono ?_); rintro e wa ⟨g1, ps1, rfl, ho1, hba⟩; have HBa : Below w5.heap.size w5 wa := hbd.trans (hba.mono (by simp)))
      | (go_at_call 52; (with_reducible refine (C2.out wa HBa).mono ?_); rintro e wb ⟨g2, ps2, rfl, ho2, hbb⟩; have HBb : Below w5.heap.size w5 wb := HBa.trans (hbb.mono HBa.size)))
    all_goals
      have O1 := Lib.hid ((ho1.below hbb).mono (base' := w.heap.size) (by show w.heap.size ≤ w5.heap.size; omega))
      have O2 := Lib.hid (ho2.mono (base' := w.heap.size) (by have := HBa.size; omega))
      have A1 : Hid (∀ b, AllFS (.slice (some ⟨g1, 0, none⟩) nd.1.length nd.1.length) ps1 b → b < wa.heap.size) := Lib.hid (fun b hb => (ho1.allS hb).2)
      have A2 : Hid (∀ b, AllFS (.slice (some ⟨g2, 0, none⟩) nd.2.length nd.2.length) ps2 b → wa.heap.size ≤ b) := Lib.hid (fun b hb => (ho2.allS hb).1)
      have B6 := Lib.hid (B5.out.trans (HBb.mono hs5))
      clear ho1 ho2 hba hbb HBa HBb hS0 t0 t1 k0'
      go_wp2_with fail
      refine bodyPost_ret (v := .tuple #[.slice (some ⟨g1, 0, none⟩) nd.1.length nd.1.length, .slice (some ⟨g2, 0, none⟩) nd.2.length nd.2.length, .bool true]) (by simp [results, Try.results22, go_sem]) rfl ?_
      rw [← HG1.out, ← HG2.out]
      exact ⟨_, _, wa.heap.size, ps1, ps2, rfl, O1.out, O2.out, A1.out, A2.out, B6.out⟩
end

section
open Go.RowKit
set_option linter.unusedVariables false
set_option linter.unusedSimpArgs false
/-- an append of a form, at a step of a region that draws; and where it lies -/
theorem step_app_fm {ops : Array Oper} {o : Oper} {a : Act} {w : World} {K : Act → World → Prop} {Q : Exit → Act → World → Prop} {E : Prop} (hgd : o.guard = none) (s x : Operand)
    (ho : o.op = .call { callee := .builtin .append, args := #[s, x], argTypes := #[24, 24] })
    {base : Nat} {v : Value} {n : Nat} {xs : List Value} (hown : w.ownsRow base 28 1 v n xs) (hs : a.eval s = v) {B : Nat} {u : Value} (hc : w.cell? ⟨B, 0, none⟩ = some u) (hu : u.oneCell' = true) (hx : a.eval x = .slice (some ⟨B, 0, none⟩) 1 1)
    (hsmall : n + 1 ≤ 3000000) (hbase : base ≤ w.heap.size)
    (h : ∀ v' w', w'.ownsRow base 28 1 v' (n + 1) (xs ++ [u]) → w.grownBy w' v.ownBlock → (v'.ownBlock = v.ownBlock ∨ v'.ownBlock = some w.heap.size) → K (a.put o.dst v') w') :
    if Region.wanted o (yielded ops a.tmps) = true then Oper.wp Try.prog o a w K Q else E := by
  obtain ⟨i0, hi0, hz0, hz1, hz2⟩ := info_parts infoFormA
  have hw : Region.wanted o (yielded ops a.tmps) = true := by simp [Region.wanted, hgd]
  rw [if_pos hw]
  have hc2 : ∀ (j : Nat) (u' : Value), [u][j]? = some u' → w.cell? ((⟨B, 0, none⟩ : Addr).add j) = some u' := fun j u' hj => by
    match j, hj with
    | 0, hj =>
      simp at hj
      subst hj
      simpa [Addr.add] using hc
  obtain ⟨v', w', hr, h2, h3, _, h5⟩ := run_append_own_at (P := Try.prog) w base 24 o.type 28 i0 (.agg #[.slice none 0 0]) 1 24 Try.underlying24 hi0 hz0 hz1 hz2 rfl (by decide) v n xs hown ⟨B, 0, none⟩ 1 1 [u] rfl hc2 (fun u' hu' => by simp at hu'; subst hu'; exact hu) (by unfold maxLen; omega) (by omega) hbase
  unfold Oper.wp execOp
  simp only [ho, resolve, invoke, builtin, Sem.run_bind, Sem.run_pure, Result.andThen_ok, List.map_toArray, List.map_cons, List.map_nil, hs, hx, hr]
  exact h v' w' h2 h3 h5
/-- a row of forms that grows; X: what may be written later on -/
def RowFs (w : World) (base : Nat) (v : Value) (X : Nat → Prop) (Fs : List (List Nz)) : Prop := ∃ vals : List Value, w.ownsRow base 28 1 v Fs.length vals ∧ vals.length = Fs.length ∧ ∀ (j : Nat) (f : List Nz) (vf : Value), Fs[j]? = some f → vals[j]? = some vf → ∃ lo hi, base ≤ lo ∧ hi ≤ w.heap.size ∧ NodesZ w lo hi vf f ∧ ∀ b, lo ≤ b → b < hi → ¬ X b
theorem RowFs.only {w w' : World} {base : Nat} {v : Value} {X F : Nat → Prop} {Fs : List (List Nz)} (h : RowFs w base v X Fs) (ho : Only w w' F) (hF : ∀ b, b < w.heap.size → F b → X b) (hv : ∀ g, v.ownBlock = some g → ¬ F g) : RowFs w' base v X Fs := by
  obtain ⟨vals, h1, h2, h3⟩ := h
  refine ⟨vals, own_only h1 ho hv, h2, fun j f vf hj hvf => ?_⟩
  obtain ⟨lo, hi, k1, k2, k3, k4⟩ := h3 j f vf hj hvf
  exact ⟨lo, hi, k1, Nat.le_trans k2 ho.size, k3.keep (fun b o h1 h2 => ho.cell (by omega) (fun hb => k4 b h1 h2 (hF b (by omega) hb))), k4⟩
theorem RowFs.below {w w' : World} {base : Nat} {v : Value} {X : Nat → Prop} {Fs : List (List Nz)} (h : RowFs w base v X Fs) (hb : Below w.heap.size w w') : RowFs w' base v X Fs := h.only (Only.of_below (F := fun _ => False) hb) (fun _ _ h => h.elim) (fun _ _ => id)
theorem RowFs.reX {w : World} {base : Nat} {v : Value} {X Y : Nat → Prop} {Fs : List (List Nz)} (h : RowFs w base v X Fs) (hs : ∀ b, b < w.heap.size → Y b → X b) : RowFs w base v Y Fs := by
  obtain ⟨vals, h1, h2, h3⟩ := h
  refine ⟨vals, h1, h2, fun j f vf hj hvf => ?_⟩
  obtain ⟨lo, hi, k1, k2, k3, k4⟩ := h3 j f vf hj hvf
  exact ⟨lo, hi, k1, k2, k3, fun b h1 h2 h3 => k4 b h1 h2 (hs b (by omega) h3)⟩
theorem RowFs.lt {w : World} {base : Nat} {v : Value} {X : Nat → Prop} {Fs : List (List Nz)} (h : RowFs w base v X Fs) : ∀ g, v.ownBlock = some g → base ≤ g ∧ g < w.heap.size := by obtain ⟨_, h, _⟩ := h; exact World.ownsRow.lt h
theorem RowFs.shape {w : World} {base : Nat} {v : Value} {X : Nat → Prop} {Fs : List (List Nz)} (h : RowFs w base v X Fs) : ∃ a c, v = .slice a Fs.length c := by
  obtain ⟨vals, h, _⟩ := h
  rcases h.2 with ⟨h1, h0⟩ | ⟨g, c, cs, h1, _⟩
  · exact ⟨none, 0, by rw [h1, h0]⟩
  · exact ⟨_, _, h1⟩
theorem RowFs.formsZ {w : World} {base : Nat} {v : Value} {X : Nat → Prop} {Fs : List (List Nz)} (h : RowFs w base v X Fs) : FormsZ w base w.heap.size v Fs := by
  obtain ⟨vals, h1, h2, h3⟩ := h
  rcases h1.2 with ⟨e1, h0⟩ | ⟨g, c, cs, e1, _⟩
  · have hl : Fs = [] := List.length_eq_zero_iff.1 h0
    subst hl
    exact ⟨none, 0, by rw [e1]; rfl, by simp, fun j f hj => by simp at hj⟩
  · subst e1
    have hlt := World.ownsRow.lt h1 _ rfl
    refine ⟨_, _, rfl, World.ownsRow.caps h1, fun j f hj => ?_⟩
    obtain ⟨vf, hvf⟩ := lt_get (l := vals) (i := j) (by rw [h2]; exact get_lt hj)
    obtain ⟨lo, hi, k1, k2, k3, _⟩ := h3 j f vf hj hvf
    exact ⟨g, 0, vf, rfl, hlt.1, hlt.2, by rw [Nat.zero_add, World.ownsRow.cellAt h1 j (by have := get_lt hj; omega), hvf], k3.wide k1 k2⟩
/-- the two rows that the model's l3Opts builds: q grows, r stands -/
structure Two (w : World) (base : Nat) (q r : Value) (Fq Fr : List (List Nz)) : Prop where
  hq : RowFs w base q (fun b => q.ownBlock = some b ∨ r.ownBlock = some b) Fq
  hr : RowFs w base r (fun b => q.ownBlock = some b ∨ r.ownBlock = some b) Fr
  ne : ∀ g, q.ownBlock = some g → r.ownBlock ≠ some g
theorem Two.below {w w' : World} {base : Nat} {q r : Value} {Fq Fr : List (List Nz)} (h : Two w base q r Fq Fr) (hb : Below w.heap.size w w') : Two w' base q r Fq Fr := ⟨h.hq.below hb, h.hr.below hb, h.ne⟩
theorem Two.swap {w : World} {base : Nat} {q r : Value} {Fq Fr : List (List Nz)} (h : Two w base q r Fq Fr) : Two w base r q Fr Fq := ⟨h.hr.reX (fun b _ h => h.symm), h.hq.reX (fun b _ h => h.symm), fun g h1 h2 => h.ne g h2 h1⟩
theorem Two.push {w w' : World} {base : Nat} {q q' r vf : Value} {vals : List Value} {f : List Nz} {Fq Fr : List (List Nz)} {lo hi : Nat} (h : Two w base q r Fq Fr) (h1 : w.ownsRow base 28 1 q Fq.length vals) (h2 : vals.length = Fq.length)
    (h3 : ∀ (j : Nat) (f : List Nz) (vf : Value), Fq[j]? = some f → vals[j]? = some vf → ∃ lo hi, base ≤ lo ∧ hi ≤ w.heap.size ∧ NodesZ w lo hi vf f ∧ ∀ b, lo ≤ b → b < hi → ¬ (q.ownBlock = some b ∨ r.ownBlock = some b))
    (hlo : base ≤ lo) (hhi : hi ≤ w.heap.size) (hv : NodesZ w lo hi vf f) (hx : ∀ b, lo ≤ b → b < hi → ¬ (q.ownBlock = some b ∨ r.ownBlock = some b))
    (hown : w'.ownsRow base 28 1 q' (Fq.length + 1) (vals ++ [vf])) (hg : w.grownBy w' q.ownBlock) (hat : q'.ownBlock = q.ownBlock ∨ q'.ownBlock = some w.heap.size) : Two w' base q' r (Fq ++ [f]) Fr := by
  have ho : Only w w' (fun b => q.ownBlock = some b) := Only.of_grown hg (fun g e => e)
  have hX : ∀ b, b < w.heap.size → (q'.ownBlock = some b ∨ r.ownBlock = some b) → (q.ownBlock = some b ∨ r.ownBlock = some b) := fun b hb e => by
    rcases e with e | e
    · rcases hat with e2 | e2
      · exact Or.inl (e2 ▸ e)
      · rw [e2] at e
        injection e with e
        omega
    · exact Or.inr e
  have keep : ∀ {lo hi : Nat} {vf : Value} {f : List Nz}, hi ≤ w.heap.size → NodesZ w lo hi vf f → (∀ b, lo ≤ b → b < hi → ¬ (q.ownBlock = some b ∨ r.ownBlock = some b)) → NodesZ w' lo hi vf f := fun hh hz hn => hz.keep (fun b o h1 h2 => ho.cell (by omega) (fun e => hn b h1 h2 (Or.inl e)))
  refine ⟨⟨vals ++ [vf], by rw [List.length_append]; exact hown, by simp [h2], fun j f1 v1 hj hv1 => ?_⟩, ?_, fun g e1 e2 => ?_⟩
  · rcases get_snoc hj with hj1 | ⟨ej, e3⟩
    · rcases get_snoc hv1 with hv2 | ⟨e4, _⟩
      · obtain ⟨l, u, k1, k2, k3, k4⟩ := h3 j f1 v1 hj1 hv2
        exact ⟨l, u, k1, Nat.le_trans k2 ho.size, keep k2 k3 k4, fun b b1 b2 e => k4 b b1 b2 (hX b (by omega) e)⟩
      · have := get_lt hj1
        omega
    · rcases get_snoc hv1 with hv2 | ⟨_, e4⟩
      · have := get_lt hv2
        omega
      · rw [e3, e4]
        exact ⟨lo, hi, hlo, Nat.le_trans hhi ho.size, keep hhi hv hx, fun b b1 b2 e => hx b b1 b2 (hX b (by omega) e)⟩
  · obtain ⟨vr, r1, r2, r3⟩ := h.hr.only ho (fun b _ e => Or.inl e) (fun g e1 e2 => h.ne g e2 e1)
    obtain ⟨vr0, s1, s2, s3⟩ := h.hr
    refine ⟨vr0, own_only s1 ho (fun g e1 e2 => h.ne g e2 e1), s2, fun j f1 v1 hj hv1 => ?_⟩
    obtain ⟨l, u, k1, k2, k3, k4⟩ := s3 j f1 v1 hj hv1
    exact ⟨l, u, k1, Nat.le_trans k2 ho.size, keep k2 k3 k4, fun b b1 b2 e => k4 b b1 b2 (hX b (by omega) e)⟩
  · rcases hat with e3 | e3
    · exact h.ne g (e3 ▸ e1) e2
    · rw [e3] at e1
      injection e1 with e1
      have := h.hr.lt g e2
      omega
theorem opt3_only {w w' : World} {b c d o o' : Nat} {v1 v2 v3 : Value} {F : Nat → Prop} (h : w.cell? ⟨b, 0, none⟩ = some v1 ∧ w.cell? ⟨c, o', none⟩ = some v2 ∧ w.cell? ⟨d, o, none⟩ = some v3) (ho : Only w w' F) (n1 : ¬ F b) (n2 : ¬ F c) (n3 : ¬ F d) : w'.cell? ⟨b, 0, none⟩ = some v1 ∧ w'.cell? ⟨c, o', none⟩ = some v2 ∧ w'.cell? ⟨d, o, none⟩ = some v3 :=
  ⟨(ho.cell (block_of_cell h.1) n1).trans h.1, (ho.cell (block_of_cell h.2.1) n2).trans h.2.1, (ho.cell (block_of_cell h.2.2) n3).trans h.2.2⟩
theorem opt3_below {w w' : World} {b c d o o' : Nat} {v1 v2 v3 : Value} (h : w.cell? ⟨b, 0, none⟩ = some v1 ∧ w.cell? ⟨c, o', none⟩ = some v2 ∧ w.cell? ⟨d, o, none⟩ = some v3) (hB : Below w.heap.size w w') : w'.cell? ⟨b, 0, none⟩ = some v1 ∧ w'.cell? ⟨c, o', none⟩ = some v2 ∧ w'.cell? ⟨d, o, none⟩ = some v3 := opt3_only h (Only.of_below (F := fun _ => False) hB) id id id
end

section
open Go.RowKit
set_option linter.unusedVariables false
set_option linter.unusedSimpArgs false
theorem goodS_resP (v : Value) (f : List Nz) (r : Bool) (hr : Hid (goodB f = r)) (w : World) (lo hi : Nat) (hh : hi ≤ w.heap.size) (hv : NodesZ w lo hi v f) :
    Calls Try.prog 41 #[.agg #[v]] w fun e w' => e = .returned (.bool r) ∧ Below w.heap.size w w' := by
  rw [← hr.out]
  exact goodS_calls v f w lo hi hh hv
theorem part_fo (f : List Nz) (h : goodB f = true) (i : Nat) (hi : i < f.length) : (fo (bkF f) ((addF [] (f.map downN)).2.getD i 0) (bOf (bkF f) ((addF [] (f.map downN)).2.getD i 0) + 1)).2 = partI (f.map downN) i := by
  obtain ⟨hf1, hf2, hr, _⟩ := (goodB_iff f).1 h
  have e1 : (f.map downN).length = f.length := by simp
  exact part_eq (f.map downN) hf2.up.2 hr.rising i (by rw [e1]; exact hi)
theorem at_lt (f : List Nz) (hs : StructZ f) (i : Nat) (hi : i < f.length) : (addF [] (f.map downN)).2.getD i 0 < (bkF f).length := by
  have ha := bkF_added f hs
  obtain ⟨nl, hnl⟩ := lt_get (l := f.map downN) (i := i) (by simpa using hi)
  exact get_lt (ha.node _ nl hnl)
set_option maxHeartbeats 1000000 in
theorem l3Part_calls (va : Value) (f : List Nz) (i : Nat) (w : World) (lo hi : Nat) (hh : hi ≤ w.heap.size) (hva : NodesZ w lo hi va f) (h : goodB f = true) (hi' : i < f.length) :
    Calls Try.prog 77 #[.agg #[va], .int .i64 (i : Int)] w fun e w' => ∃ v, e = .returned (.agg #[v]) ∧ NodesZ w' w.heap.size w'.heap.size v ((partI (f.map downN) i).map upN) ∧ Below w.heap.size w w' := by
  obtain ⟨hf1, hf2, _⟩ := (goodB_iff f).1 h
  have hup := hf2.up
  have e1 : (f.map downN).length = f.length := by simp
  have hl2 := hf1.2.1
  have HPF := Lib.hid (part_fo f h i hi')
  obtain ⟨y, hy⟩ : ∃ y, (addF [] (f.map downN)).2.getD i 0 = y := ⟨_, rfl⟩
  have hyl : y < (bkF f).length := by rw [← hy]; exact at_lt f hf2 i hi'
  have hbl := bkF_len f
  have hal := (addF_len [] (f.map downN)).1
  obtain ⟨z, hz⟩ := lt_get (l := (addF [] (f.map downN)).2) (i := i) (by omega)
  have hzy : z = y := by rw [← hy, List.getD_eq_getElem?_getD, hz]; rfl
  subst hzy
  rw [hy] at HPF
  have HZ := Lib.hid hz
  have hbk := (bkF_added f hf2).book
  have e0 : ((w.alloc (.cells #[va] 28)).alloc (.cells #[.slice none 0 0] 28)).heap.size = w.heap.size + 2 := by simp
  have hbx : Below w.heap.size w (((w.alloc (.cells #[va] 28)).alloc (.cells #[.slice none 0 0] 28)).alloc (.cells #[.slice none 0 0, .slice none 0 0] 101)) := (((Below.refl _ _).alloc (Nat.le_refl _) _).alloc (by simp) _).alloc (by simp; omega) _
  have hrb : BoxAt (((w.alloc (.cells #[va] 28)).alloc (.cells #[.slice none 0 0] 28)).alloc (.cells #[.slice none 0 0, .slice none 0 0] 101)) (w.heap.size + 1) (.slice none 0 0) := ⟨by go_simp, by go_simp⟩
  have HBX := Lib.hid hbx
  have hnil := bk_nil ((w.alloc (.cells #[va] 28)).alloc (.cells #[.slice none 0 0] 28))
  rw [e0] at hnil
  have CA := Lib.hid (add_calls (w.heap.size + 2) (w.heap.size + 2) [] (.slice none 0 0) (.slice none 0 0) [] va (f.map downN) _ lo hi (by omega) hnil book_nil (by rw [hup.1]; exact hva.below hbx hh) hup.2.under (by simp; omega) (downN_small hf1))
  have hBK := Lib.hid hbk
  clear hy hz h hnil hbx hva hbk hup hf1 hf2
  go_enter Try.func77, Try.ntmps77
  go_wp2_with fail
  refine CA.out.mono ?_
  rintro e w4 ⟨g, c, vn, vb, vs, rfl, hi4, hK4, ho4, _⟩
  have HB4 : Hid (Below w.heap.size w w4) := Lib.hid (HBX.out.trans (ho4.below (by simp; omega) (fun g hg => by
    rcases hg with rfl | hg | hg
    · omega
    · simp [Value.ownBlock] at hg
    · simp [Value.ownBlock] at hg)))
  have hr4 : BoxAt w4 (w.heap.size + 1) (.slice none 0 0) := hrb.only ho4 (fun hg => by
    rcases hg with hg | hg | hg
    · omega
    · simp [Value.ownBlock] at hg
    · simp [Value.ownBlock] at hg)
  rw [e1] at hi4 ⊢
  obtain ⟨bb, oo, hao, _, hcell⟩ := ints_atP (n := f.length) (c := c) hi4 HZ.out
  injection hao with hao
  injection hao with h1 h2
  subst h1 h2
  rw [Nat.zero_add] at hcell
  have CF := Lib.hid (form_calls (w.heap.size + 2) (w.heap.size + 2) (bkF f) vn vb vs (fun _ => False) z w4 hK4 hBK.out hyl (by omega))
  rw [HPF.out] at CF
  obtain ⟨G, hG⟩ : ∃ G, (partI (f.map downN) i).map upN = G := ⟨_, rfl⟩
  rw [hG] at CF
  have HGG := Lib.hid hG
  clear hG
  have i0 : (0 : Int) ≤ i := by omega
  have i1 : (i : Int) < f.length := by omega
  clear hi4 hK4 ho4 CA
  go_wp2_with fail
  refine CF.out.mono ?_
  rintro e w5 ⟨v, rfl, hn5, hb5⟩
  obtain ⟨d5, z5⟩ := hr4.below hb5
  have hlt := block_of_cell hr4.1
  have HB5 : Hid (Below w.heap.size w (w5.setCell ⟨w.heap.size + 1, 0, none⟩ v)) := Lib.hid ((HB4.out.trans (hb5.mono HB4.out.size)).setCell (by show w.heap.size ≤ w.heap.size + 1; omega) _)
  have HN : Hid (NodesZ (w5.setCell ⟨w.heap.size + 1, 0, none⟩ v) w.heap.size (w5.setCell ⟨w.heap.size + 1, 0, none⟩ v).heap.size v G) := Lib.hid ((NodesZ.keep hn5 (fun b o h1 h2 => World.cell?_setCell_other _ _ _ _ (fun e => by injection e with e _ _; omega))).wide HB4.out.size (by simp))
  have hcr := World.cell?_setCell_same w5 ⟨w.heap.size + 1, 0, none⟩ v d5
  obtain ⟨av, cv, rfl, _⟩ := (show ∃ a c, v = .slice a G.length c ∧ True from by obtain ⟨a, c, e, _⟩ := hn5; exact ⟨a, c, e, trivial⟩)
  clear hn5 hb5 CF hr4 hrb
  go_wp2_with fail
  refine bodyPost_ret (v := .agg #[.slice av G.length cv]) (by simp [results, Try.results77, go_sem, hcr]) rfl ?_
  rw [HGG.out]
  exact ⟨_, rfl, HN.out, HB5.out⟩
end

section
open Go.RowKit
set_option linter.unusedVariables false
set_option linter.unusedSimpArgs false
set_option maxRecDepth 100000 in
set_option maxHeartbeats 4000000 in
theorem l3Opts_calls (va : Value) (f : List Nz) (w : World) (lo hi : Nat) (hh : hi ≤ w.heap.size) (hva : NodesZ w lo hi va f) (hg : goodB f = true) :
    Calls Try.prog 44 #[.agg #[va]] w fun e w' => ∃ v1 v2, e = .returned (.tuple #[v1, v2]) ∧ FormsZ w' w.heap.size w'.heap.size v1 (partsF f (lastN f).1) ∧ FormsZ w' w.heap.size w'.heap.size v2 (partsF f (lastN f).2) ∧ Below w.heap.size w w' := by
  obtain ⟨hf1, hf2, _⟩ := (goodB_iff f).1 hg
  have e1 : (f.map downN).length = f.length := by simp
  have l0 := hf1.1
  have l1 := hf1.2.1
  have hsm := lastN_small hg
  have hlt := Lib.hid (fun x => lastN_lt hg x)
  have C := Lib.hid fun (W : World) (hW : Below w.heap.size w W) (i : Nat) (hi' : i < f.length) => show Calls Try.prog 77 #[.agg #[va], .int .i64 (i : Int)] W fun e w' => ∃ a c, e = .returned (.agg #[.slice a ((partI (f.map downN) i).map upN).length c]) ∧ NodesZ w' W.heap.size w'.heap.size (.slice a ((partI (f.map downN) i).map upN).length c) ((partI (f.map downN) i).map upN) ∧ Below W.heap.size W w' from
    (l3Part_calls va f i W lo hi (Nat.le_trans hh hW.size) (hva.below hW hh) hg hi').mono fun e w' ⟨v, he, hn, hb⟩ => by
      obtain ⟨a, c, e1, hx⟩ := hn
      subst e1
      exact ⟨a, c, he, ⟨a, c, rfl, hx⟩, hb⟩
  have HVN := Lib.hid fun (W : World) (hW : Below w.heap.size w W) => nodes_atP (w := W) (lo := lo) (hi := hi) (v := va) (by rw [hf2.up.1]; exact hva.below hW hh) (lastN_at l0)
  rw [e1] at HVN
  obtain ⟨ao, c0, rfl⟩ : ∃ ao c, va = .slice ao f.length c := by obtain ⟨ao, c, e, _⟩ := hva; exact ⟨ao, c, e⟩
  have hn1 : IntKind.i64.wrap ((f.length : Int) - 1) = ((f.length - 1 : Nat) : Int) := by rw [IntWalk.i64_in _ (by omega)]; omega
  have hn2 : ((f.length - 1 : Nat) : Int) < f.length := by omega
  have HP : Hid (∀ L, partsF f L = L.map (fun x => (partI (f.map downN) x).map upN)) := Lib.hid (fun L => rfl)
  generalize lastN f = nd at hsm hlt HVN ⊢
  clear hva hf1 hf2 e1 hg
  have BX : Hid (Below w.heap.size w (((w.alloc (.cells #[.slice ao f.length c0] 28)).alloc (.cells #[] 28)).alloc (.cells #[] 28))) := Lib.hid ((((Below.refl _ _).alloc (Nat.le_refl _) _).alloc (by simp) _).alloc (by simp; omega) _)
  obtain ⟨b, off, cc, v1, v2, e, hbh, p1, p2, i1, i2⟩ := HVN.out _ BX.out
  obtain ⟨q1, _, q3⟩ := slice_inj e
  subst q1 q3
  obtain ⟨a1, d1, rfl, hd1⟩ := ints_lenP i1
  obtain ⟨a2, d2, rfl, hd2⟩ := ints_lenP i2
  clear e
  go_enter Try.func44, Try.ntmps44
  have BW : Hid (Below w.heap.size w ((((w.alloc (.cells #[.slice (some ⟨b, off, none⟩) f.length c0] 28)).alloc (.cells #[] 28)).alloc (.cells #[] 28)).alloc (.cells #[.slice a1 nd.1.length d1, .slice a2 nd.2.length d2] 57))) := Lib.hid (BX.out.alloc (by simp; omega) _)
  have bz : Below ((((w.alloc (.cells #[.slice (some ⟨b, off, none⟩) f.length c0] 28)).alloc (.cells #[] 28)).alloc (.cells #[] 28))).heap.size ((((w.alloc (.cells #[.slice (some ⟨b, off, none⟩) f.length c0] 28)).alloc (.cells #[] 28)).alloc (.cells #[] 28))) ((((w.alloc (.cells #[.slice (some ⟨b, off, none⟩) f.length c0] 28)).alloc (.cells #[] 28)).alloc (.cells #[] 28)).alloc (.cells #[.slice a1 nd.1.length d1, .slice a2 nd.2.length d2] 57)) := (Below.refl _ _).alloc (Nat.le_refl _) _
  have I1 := Lib.hid (i1.below bz (by simp; omega))
  have I2 := Lib.hid (i2.below bz (by simp; omega))
  have hsz0 : (((((w.alloc (.cells #[.slice (some ⟨b, off, none⟩) f.length c0] 28)).alloc (.cells #[] 28)).alloc (.cells #[] 28)).alloc (.cells #[.slice a1 nd.1.length d1, .slice a2 nd.2.length d2] 57))).heap.size = w.heap.size + 4 := by simp
  have m0 : (((((w.alloc (.cells #[.slice (some ⟨b, off, none⟩) f.length c0] 28)).alloc (.cells #[] 28)).alloc (.cells #[] 28)).alloc (.cells #[.slice a1 nd.1.length d1, .slice a2 nd.2.length d2] 57))).cell? ⟨w.heap.size, 0, none⟩ = some (.slice (some ⟨b, off, none⟩) f.length c0) := by go_simp
  have m1 : (((((w.alloc (.cells #[.slice (some ⟨b, off, none⟩) f.length c0] 28)).alloc (.cells #[] 28)).alloc (.cells #[] 28)).alloc (.cells #[.slice a1 nd.1.length d1, .slice a2 nd.2.length d2] 57))).cell? ⟨w.heap.size + 1 + 1 + 1, 0, none⟩ = some (.slice a1 nd.1.length d1) := by go_simp
  have m2 : (((((w.alloc (.cells #[.slice (some ⟨b, off, none⟩) f.length c0] 28)).alloc (.cells #[] 28)).alloc (.cells #[] 28)).alloc (.cells #[.slice a1 nd.1.length d1, .slice a2 nd.2.length d2] 57))).cell? ⟨w.heap.size + 1 + 1 + 1, 1, none⟩ = some (.slice a2 nd.2.length d2) := by go_simp
  have lit : ∀ (W : World) (X : Nat → Prop), W.ownsRow w.heap.size 28 1 (.slice (some ⟨W.heap.size - 1, 0, none⟩) 0 0) 0 [] → RowFs W w.heap.size (.slice (some ⟨W.heap.size - 1, 0, none⟩) 0 0) X [] := fun W X h => ⟨[], h, rfl, fun j f vf hj => by simp at hj⟩
  have T0 : Hid (Two ((((w.alloc (.cells #[.slice (some ⟨b, off, none⟩) f.length c0] 28)).alloc (.cells #[] 28)).alloc (.cells #[] 28)).alloc (.cells #[.slice a1 nd.1.length d1, .slice a2 nd.2.length d2] 57)) w.heap.size (.slice (some ⟨w.heap.size + 1, 0, none⟩) 0 0) (.slice (some ⟨w.heap.size + 1 + 1, 0, none⟩) 0 0) [] []) := Lib.hid (by
    have h1 := World.ownsRow_lit (base := w.heap.size) (e := 28) (size := 1) (w.alloc (.cells #[.slice (some ⟨b, off, none⟩) f.length c0] 28)) #[] 0 (by simp) (by unfold maxLen; omega) rfl
    rw [show (w.alloc (.cells #[.slice (some ⟨b, off, none⟩) f.length c0] 28)).heap.size = w.heap.size + 1 from by simp] at h1
    have h2 := World.ownsRow_lit (base := w.heap.size) (e := 28) (size := 1) ((w.alloc (.cells #[.slice (some ⟨b, off, none⟩) f.length c0] 28)).alloc (.cells #[] 28)) #[] 0 (by simp; omega) (by unfold maxLen; omega) rfl
    rw [show ((w.alloc (.cells #[.slice (some ⟨b, off, none⟩) f.length c0] 28)).alloc (.cells #[] 28)).heap.size = w.heap.size + 1 + 1 from by simp] at h2
    exact ⟨⟨[], World.ownsRow.alloc (World.ownsRow.alloc h1 _) _, rfl, fun j f vf hj => by simp at hj⟩, ⟨[], World.ownsRow.alloc h2 _, rfl, fun j f vf hj => by simp at hj⟩, fun g e1 e2 => by
      have := own_eqp e1
      have := own_eqp e2
      omega⟩)
  have Q0 : Hid (∀ g, (Value.slice (some ⟨w.heap.size + 1, 0, none⟩) 0 0).ownBlock = some g → g ≠ w.heap.size ∧ g ≠ w.heap.size + 1 + 1 + 1) := Lib.hid (fun g e => by have := own_eqp e; omega)
  have R0 : Hid (∀ g, (Value.slice (some ⟨w.heap.size + 1 + 1, 0, none⟩) 0 0).ownBlock = some g → g ≠ w.heap.size ∧ g ≠ w.heap.size + 1 + 1 + 1) := Lib.hid (fun g e => by have := own_eqp e; omega)
  clear lit bz i1 i2 BX HVN
  go_wp2
  clear p1 p2
  generalize ((((w.alloc (.cells #[.slice (some ⟨b, off, none⟩) f.length c0] 28)).alloc (.cells #[] 28)).alloc (.cells #[] 28)).alloc (.cells #[.slice a1 nd.1.length d1, .slice a2 nd.2.length d2] 57)) = W0 at BW I1 I2 hsz0 m0 m1 m2 T0 ⊢
  go_loopw [4, 7] (fun q i wr => ∃ k : Nat, k ≤ nd.1.length ∧ i = .int .i64 (k : Int) ∧ Hid (Two wr w.heap.size q (.slice (some ⟨w.heap.size + 1 + 1, 0, none⟩) 0 0) (partsF f (nd.1.take k)) []) ∧ Hid (∀ g, q.ownBlock = some g → g ≠ w.heap.size ∧ g ≠ w.heap.size + 1 + 1 + 1) ∧ Hid (Below w.heap.size w wr) ∧ w.heap.size + 4 ≤ wr.heap.size ∧ wr.cell? ⟨w.heap.size, 0, none⟩ = some (.slice (some ⟨b, off, none⟩) f.length c0) ∧ wr.cell? ⟨w.heap.size + 1 + 1 + 1, 0, none⟩ = some (.slice a1 nd.1.length d1) ∧ wr.cell? ⟨w.heap.size + 1 + 1 + 1, 1, none⟩ = some (.slice a2 nd.2.length d2) ∧ Hid (IntsZ wr lo hi (.slice a1 nd.1.length d1) (upL nd.1)) ∧ Hid (IntsZ wr lo hi (.slice a2 nd.2.length d2) (upL nd.2))) (fun _ i _ => nd.1.length - (intOf i).toNat)
  case atStart => exact ⟨0, Nat.zero_le _, rfl, by rw [List.take_zero]; exact T0, Q0, BW, by omega, m0, m1, m2, I1, I2⟩
  case round =>
    obtain ⟨k, hk, rfl, hT, hqn, hb, hsz, k0, c1, c2, J1, J2⟩ := hrel
    clear T0 Q0 BW m0 m1 m2 I1 I2
    by_cases hlt2 : k < nd.1.length
    · obtain ⟨x, hx⟩ := lt_get hlt2
      have hxf := hlt.out x (Or.inl (List.mem_of_getElem? hx))
      obtain ⟨b', off', rfl, hbb', hcell⟩ := ints_atP J1.out hx
      have HPT := Lib.hid (partsF_take f nd.1 k x hx)
      have hpl : (partsF f (nd.1.take k)).length = k := by unfold partsF; rw [List.length_map, List.length_take]; omega
      have HPL := Lib.hid hpl
      have CW := Lib.hid fun (W : World) (hW : Below wr.heap.size wr W) => C.out W (hb.out.trans (hW.mono hb.out.size)) x hxf
      obtain ⟨P, hP⟩ : ∃ P, (partI (f.map downN) x).map upN = P := ⟨_, rfl⟩
      rw [hP] at CW HPT
      have HTW := Lib.hid fun (W : World) (hW : Below wr.heap.size wr W) => hT.out.below hW
      have hqb := Lib.hid hT.out.hq.lt
      have hrb := Lib.hid hT.out.hr.lt
      have hS0 : wr.drew.cell? ⟨w.heap.size, 0, none⟩ = some (.slice (some ⟨b, off, none⟩) f.length c0) ∧ wr.drew.cell? ⟨w.heap.size + 1 + 1 + 1, 0, none⟩ = some (.slice (some ⟨b', off', none⟩) nd.1.length d1) ∧ wr.drew.cell? ⟨b', off' + k, none⟩ = some (.int .i64 (x : Int)) := ⟨k0, c1, hcell⟩
      have hbd : Below wr.heap.size wr wr.drew := below_drewN (Below.refl _ _) 1
      have kk0 : (0 : Int) ≤ k := by omega
      have kk1 : (k : Int) < nd.1.length := by omega
      have hbz := hb.out.size
      clear hP hpl hx hT
      go_wp2
      go_region_held3 (fun w' : World => w'.cell? ⟨w.heap.size, 0, none⟩ = some (.slice (some ⟨b, off, none⟩) f.length c0) ∧ w'.cell? ⟨w.heap.size + 1 + 1 + 1, 0, none⟩ = some (.slice (some ⟨b', off', none⟩) nd.1.length d1) ∧ w'.cell? ⟨b', off' + k, none⟩ = some (.int .i64 (x : Int))) (first | exact hS0 | (go_split_ands; exact ⟨‹_›, ‹_›, ‹_›⟩) | (go_split_ands; exact opt3_only ⟨‹_›, ‹_›, ‹_›⟩ HAP.out (fun e => (hqn.out _ e).1 rfl) (fun e => (hqn.out _ e).2 rfl) (fun e => by have := hqb.out _ e; omega)) | (go_split_ands; exact opt3_below ⟨‹_›, ‹_›, ‹_›⟩ ((Below.refl _ _).alloc (Nat.le_refl _) _)) | (go_split_ands; exact opt3_below ⟨‹_›, ‹_›, ‹_›⟩ hbb)) (first
        | (go_at_call 77; (with_reducible refine (CW.out _ hbd).mono ?_); rintro e wb ⟨av, cv, rfl, hn, hbb⟩; have HBb : Below wr.heap.size wr wb := hbd.trans (hbb.mono (by simp)); have HBc : Below wr.heap.size wr (wb.alloc (.cells #[.slice av P.length cv] 28)) := HBb.trans (((Below.refl _ _).alloc (Nat.le_refl _) _).mono HBb.size); have hT2 := HTW.out _ HBc; obtain ⟨vals, r1, r2, r3⟩ := hT2.hq)
        | (refine step_app_fm rfl _ _ rfl r1 rfl (B := wb.heap.size) (u := .slice av P.length cv) (by go_simp) rfl rfl (by rw [HPL.out]; omega) (by have := HBc.size; omega) ?_; intro v7 w7 hown7 hgrow7 hat7; have HAP : Hid (Only _ w7 (fun b => u4.ownBlock = some b)) := Lib.hid (Only.of_grown hgrow7 (fun g e => e))))
      all_goals
        have OA : Only wr w7 (fun b => u4.ownBlock = some b) := (Only.of_below (F := fun b => u4.ownBlock = some b) HBc).trans HAP.out (fun _ _ h => h)
        have hzc : (wb.alloc (.cells #[.slice av P.length cv] 28)).heap.size = wb.heap.size + 1 := by simp
        have hbz2 := HBb.size
        have R1 : Hid (Two w7 w.heap.size v7 (.slice (some ⟨w.heap.size + 1 + 1, 0, none⟩) 0 0) (partsF f (nd.1.take (k + 1))) []) := Lib.hid (by
          rw [HPT.out]
          exact hT2.push r1 r2 r3 (lo := wr.heap.size) (hi := wb.heap.size) hbz (by omega) (hn.below ((Below.refl _ _).alloc (Nat.le_refl _) _) (Nat.le_refl _)) (fun b h1 h2 e => by
            rcases e with e | e
            · have := hqb.out b e; omega
            · have := hrb.out b e; omega) hown7 hgrow7 hat7)
        have R2 : Hid (∀ g, v7.ownBlock = some g → g ≠ w.heap.size ∧ g ≠ w.heap.size + 1 + 1 + 1) := Lib.hid (fun g e => by
          rcases hat7 with h | h
          · exact hqn.out g (h ▸ e)
          · rw [h] at e
            injection e with e
            omega)
        have BA : Below w.heap.size wr w7 := OA.below hbz (fun g e => (hqb.out g e).1)
        have R3 := Lib.hid (hb.out.trans BA)
        have R4 : w.heap.size + 4 ≤ w7.heap.size := by have := OA.size; omega
        have R5 := (OA.cell (o := 0) (block_of_cell k0) (fun e => (hqn.out _ e).1 rfl)).trans k0
        have R6 := (OA.cell (o := 0) (block_of_cell c1) (fun e => (hqn.out _ e).2 rfl)).trans c1
        have R7 := (OA.cell (o := 1) (block_of_cell c2) (fun e => (hqn.out _ e).2 rfl)).trans c2
        have R8 := Lib.hid (J1.out.below BA hh)
        have R9 := Lib.hid (J2.out.below BA hh)
        clear hown7 hgrow7 hat7 HAP hT2 r1 r2 r3 hn hbb HBb HBc OA BA hqb hrb hS0 hbd CW HTW k0 c1 c2 J1 J2 hb hqn
        go_wp2_with fail
        go_roundw
        case rel => exact ⟨k + 1, by omega, by go_num, R1, R2, R3, R4, R5, R6, R7, R8, R9⟩
        case measure => first | (simp [intOf]; done) | (simp [intOf]; omega)
    · have hke : nd.1.take k = nd.1 := List.take_of_length_le (by omega)
      rw [hke] at hT
      clear hke
      obtain ⟨W1, hW1⟩ : ∃ W, W = wr := ⟨_, rfl⟩
      subst hW1
      obtain ⟨aL, cL, rfl⟩ := hT.out.hq.shape
      have TS : Hid (Two W1 w.heap.size (.slice (some ⟨w.heap.size + 1 + 1, 0, none⟩) 0 0) (.slice aL (partsF f nd.1).length cL) [] (partsF f nd.1)) := Lib.hid hT.out.swap
      clear hT hqn
      go_wp2
      go_loopw [5, 8] (fun q i wr => ∃ k : Nat, k ≤ nd.2.length ∧ i = .int .i64 (k : Int) ∧ Hid (Two wr w.heap.size q (.slice aL (partsF f nd.1).length cL) (partsF f (nd.2.take k)) (partsF f nd.1)) ∧ Hid (∀ g, q.ownBlock = some g → g ≠ w.heap.size ∧ g ≠ w.heap.size + 1 + 1 + 1) ∧ Hid (Below w.heap.size w wr) ∧ w.heap.size + 4 ≤ wr.heap.size ∧ wr.cell? ⟨w.heap.size, 0, none⟩ = some (.slice (some ⟨b, off, none⟩) f.length c0) ∧ wr.cell? ⟨w.heap.size + 1 + 1 + 1, 0, none⟩ = some (.slice a1 nd.1.length d1) ∧ wr.cell? ⟨w.heap.size + 1 + 1 + 1, 1, none⟩ = some (.slice a2 nd.2.length d2) ∧ Hid (IntsZ wr lo hi (.slice a1 nd.1.length d1) (upL nd.1)) ∧ Hid (IntsZ wr lo hi (.slice a2 nd.2.length d2) (upL nd.2))) (fun _ i _ => nd.2.length - (intOf i).toNat)
      case atStart => exact ⟨0, Nat.zero_le _, rfl, by rw [List.take_zero]; exact TS, R0, hb, hsz, k0, c1, c2, J1, J2⟩
      case round =>
        clear TS hb hsz k0 c1 c2 J1 J2
        obtain ⟨k, hk, rfl, hT, hqn, hb, hsz, k0, c1, c2, J1, J2⟩ := hrel
        by_cases hlt3 : k < nd.2.length
        · obtain ⟨x, hx⟩ := lt_get hlt3
          have hxf := hlt.out x (Or.inr (List.mem_of_getElem? hx))
          obtain ⟨b', off', rfl, hbb', hcell⟩ := ints_atP J2.out hx
          have HPT := Lib.hid (partsF_take f nd.2 k x hx)
          have hpl : (partsF f (nd.2.take k)).length = k := by unfold partsF; rw [List.length_map, List.length_take]; omega
          have HPL := Lib.hid hpl
          have CW := Lib.hid fun (W : World) (hW : Below wr.heap.size wr W) => C.out W (hb.out.trans (hW.mono hb.out.size)) x hxf
          obtain ⟨P, hP⟩ : ∃ P, (partI (f.map downN) x).map upN = P := ⟨_, rfl⟩
          rw [hP] at CW HPT
          have HTW := Lib.hid fun (W : World) (hW : Below wr.heap.size wr W) => hT.out.below hW
          have hqb := Lib.hid hT.out.hq.lt
          have hrb := Lib.hid hT.out.hr.lt
          have hS0 : wr.drew.cell? ⟨w.heap.size, 0, none⟩ = some (.slice (some ⟨b, off, none⟩) f.length c0) ∧ wr.drew.cell? ⟨w.heap.size + 1 + 1 + 1, 1, none⟩ = some (.slice (some ⟨b', off', none⟩) nd.2.length d2) ∧ wr.drew.cell? ⟨b', off' + k, none⟩ = some (.int .i64 (x : Int)) := ⟨k0, c2, hcell⟩
          have hbd : Below wr.heap.size wr wr.drew := below_drewN (Below.refl _ _) 1
          have kk0 : (0 : Int) ≤ k := by omega
          have kk1 : (k : Int) < nd.2.length := by omega
          have hbz := hb.out.size
          clear hP hpl hx hT
          go_wp2
          go_region_held3 (fun w' : World => w'.cell? ⟨w.heap.size, 0, none⟩ = some (.slice (some ⟨b, off, none⟩) f.length c0) ∧ w'.cell? ⟨w.heap.size + 1 + 1 + 1, 1, none⟩ = some (.slice (some ⟨b', off', none⟩) nd.2.length d2) ∧ w'.cell? ⟨b', off' + k, none⟩ = some (.int .i64 (x : Int))) (first | exact hS0 | (go_split_ands; exact ⟨‹_›, ‹_›, ‹_›⟩) | (go_split_ands; exact opt3_only ⟨‹_›, ‹_›, ‹_›⟩ HAP.out (fun e => (hqn.out _ e).1 rfl) (fun e => (hqn.out _ e).2 rfl) (fun e => by have := hqb.out _ e; omega)) | (go_split_ands; exact opt3_below ⟨‹_›, ‹_›, ‹_›⟩ ((Below.refl _ _).alloc (Nat.le_refl _) _)) | (go_split_ands; exact opt3_below ⟨‹_›, ‹_›, ‹_›⟩ hbb)) (first
            | (go_at_call 77; (with_reducible refine (CW.out _ hbd).mono ?_); rintro e wb ⟨av, cv, rfl, hn, hbb⟩; have HBb : Below wr.heap.size wr wb := hbd.trans (hbb.mono (by simp)); have HBc : Below wr.heap.size wr (wb.alloc (.cells #[.slice av P.length cv] 28)) := HBb.trans (((Below.refl _ _).alloc (Nat.le_refl _) _).mono HBb.size); have hT2 := HTW.out _ HBc; obtain ⟨vals, r1, r2, r3⟩ := hT2.hq)
            | (refine step_app_fm rfl _ _ rfl r1 rfl (B := wb.heap.size) (u := .slice av P.length cv) (by go_simp) rfl rfl (by rw [HPL.out]; omega) (by have := HBc.size; omega) ?_; intro v7 w7 hown7 hgrow7 hat7; have HAP : Hid (Only _ w7 (fun b => u5.ownBlock = some b)) := Lib.hid (Only.of_grown hgrow7 (fun g e => e))))
          all_goals
            have OA : Only wr w7 (fun b => u5.ownBlock = some b) := (Only.of_below (F := fun b => u5.ownBlock = some b) HBc).trans HAP.out (fun _ _ h => h)
            have hzc : (wb.alloc (.cells #[.slice av P.length cv] 28)).heap.size = wb.heap.size + 1 := by simp
            have hbz2 := HBb.size
            have R1 : Hid (Two w7 w.heap.size v7 (.slice aL (partsF f nd.1).length cL) (partsF f (nd.2.take (k + 1))) (partsF f nd.1)) := Lib.hid (by
              rw [HPT.out]
              exact hT2.push r1 r2 r3 (lo := wr.heap.size) (hi := wb.heap.size) hbz (by omega) (hn.below ((Below.refl _ _).alloc (Nat.le_refl _) _) (Nat.le_refl _)) (fun b h1 h2 e => by
                rcases e with e | e
                · have := hqb.out b e; omega
                · have := hrb.out b e; omega) hown7 hgrow7 hat7)
            have R2 : Hid (∀ g, v7.ownBlock = some g → g ≠ w.heap.size ∧ g ≠ w.heap.size + 1 + 1 + 1) := Lib.hid (fun g e => by
              rcases hat7 with h | h
              · exact hqn.out g (h ▸ e)
              · rw [h] at e
                injection e with e
                omega)
            have BA : Below w.heap.size wr w7 := OA.below hbz (fun g e => (hqb.out g e).1)
            have R3 := Lib.hid (hb.out.trans BA)
            have R4 : w.heap.size + 4 ≤ w7.heap.size := by have := OA.size; omega
            have R5 := (OA.cell (o := 0) (block_of_cell k0) (fun e => (hqn.out _ e).1 rfl)).trans k0
            have R6 := (OA.cell (o := 0) (block_of_cell c1) (fun e => (hqn.out _ e).2 rfl)).trans c1
            have R7 := (OA.cell (o := 1) (block_of_cell c2) (fun e => (hqn.out _ e).2 rfl)).trans c2
            have R8 := Lib.hid (J1.out.below BA hh)
            have R9 := Lib.hid (J2.out.below BA hh)
            clear hown7 hgrow7 hat7 HAP hT2 r1 r2 r3 hn hbb HBb HBc OA BA hqb hrb hS0 hbd CW HTW k0 c1 c2 J1 J2 hb hqn
            go_wp2_with fail
            go_roundw
            case rel => exact ⟨k + 1, by omega, by go_num, R1, R2, R3, R4, R5, R6, R7, R8, R9⟩
            case measure => first | (simp [intOf]; done) | (simp [intOf]; omega)
        · have hke : nd.2.take k = nd.2 := List.take_of_length_le (by omega)
          rw [hke] at hT
          obtain ⟨aR, cR, rfl⟩ := hT.out.hq.shape
          have F1 := Lib.hid hT.out.hr.formsZ
          have F2 := Lib.hid hT.out.hq.formsZ
          clear hke hT hqn
          go_wp2
          exact bodyPost_ret (v := .tuple #[.slice aL (partsF f nd.1).length cL, .slice aR (partsF f nd.2).length cR]) (by simp [results, Try.results44, go_sem]) rfl ⟨_, _, rfl, F1.out, F2.out, hb.out⟩
/-- as the program's -/
theorem optionsS_calls (va : Value) (f : List Nz) (G1 G2 : List (List Nz)) (ok : Bool) (hok : Hid (goodB f = ok)) (h1 : Hid (optV f true = G1)) (h2 : Hid (optV f false = G2)) (w : World) (lo hi : Nat) (hh : hi ≤ w.heap.size) (hva : NodesZ w lo hi va f) :
    Calls Try.prog 18 #[.agg #[va]] w fun e w' => ∃ a1 c1 a2 c2, e = .returned (.tuple #[.slice a1 G1.length c1, .slice a2 G2.length c2, .bool ok]) ∧
      FormsZ w' w.heap.size w'.heap.size (.slice a1 G1.length c1) G1 ∧ FormsZ w' w.heap.size w'.heap.size (.slice a2 G2.length c2) G2 ∧ Below w.heap.size w w' := by
  have HB0 := Lib.hid fun o => show Below w.heap.size w (w.alloc o) from ((Below.refl _ _).alloc (Nat.le_refl _) _)
  have CG := Lib.hid fun (W : World) (hW : Below w.heap.size w W) => goodS_resP va f ok hok W lo hi (Nat.le_trans hh hW.size) (hva.below hW hh)
  have HVA := Lib.hid fun (W : World) (hW : Below w.heap.size w W) => hva.below hW hh
  obtain ⟨ao, c0, rfl⟩ : ∃ ao c, va = .slice ao f.length c := by obtain ⟨ao, c, e, _⟩ := hva; exact ⟨ao, c, e⟩
  clear hva
  go_enter Try.func18, Try.ntmps18
  go_wp2_with fail
  refine (CG.out _ (HB0.out _)).mono ?_
  rintro e w4 ⟨rfl, hb4⟩
  have k0 : w4.cell? ⟨w.heap.size, 0, none⟩ = some (.slice ao f.length c0) := (bcell hb4 _ _ (by simp)).trans (by go_simp)
  have HB4 := Lib.hid (Below.trans (HB0.out _) (hb4.mono (by simp)))
  clear hb4 CG
  cases ok with
  | false =>
    obtain rfl : G1 = [] := by rw [← h1.out]; unfold optV; rw [hok.out]; rfl
    obtain rfl : G2 = [] := by rw [← h2.out]; unfold optV; rw [hok.out]; rfl
    have NZ : ∀ W lo hi (g c : Nat), FormsZ W lo hi (.slice (some ⟨g, 0, none⟩) 0 0) [] := fun W lo hi g c => ⟨_, 0, rfl, by simp, fun j f hj => by simp at hj⟩
    have B6 : Hid (Below w.heap.size w ((w4.alloc (.cells #[] 28)).alloc (.cells #[] 28))) := Lib.hid ((HB4.out.alloc HB4.out.size _).alloc (by have := HB4.out.size; simp; omega) _)
    go_wp2_with fail
    exact bodyPost_ret (v := .tuple #[.slice (some ⟨w4.heap.size, 0, none⟩) 0 0, .slice (some ⟨w4.heap.size + 1, 0, none⟩) 0 0, .bool false]) (by simp [results, Try.results18, go_sem]) rfl ⟨_, _, _, _, rfl, NZ _ _ _ _ 0, NZ _ _ _ _ 0, B6.out⟩
  | true =>
    have hg := hok.out
    have E1 : Hid (partsF f (lastN f).1 = G1) := Lib.hid (by rw [← h1.out]; unfold optV; rw [hg]; rfl)
    have E2 : Hid (partsF f (lastN f).2 = G2) := Lib.hid (by rw [← h2.out]; unfold optV; rw [hg]; rfl)
    have C := Lib.hid fun (W : World) (hW : Below w.heap.size w W) => l3Opts_calls (.slice ao f.length c0) f W lo hi (Nat.le_trans hh hW.size) (HVA.out W hW) hg
    rw [E1.out, E2.out] at C
    clear hg hok h1 h2 E1 E2
    go_wp2_with fail
    refine (C.out _ HB4.out).mono ?_
    rintro e w5 ⟨v1, v2, rfl, f1, f2, hb5⟩
    obtain ⟨a1, c1, rfl, _⟩ := (show ∃ a c, v1 = .slice a G1.length c ∧ True from by obtain ⟨a, c, e, _⟩ := f1; exact ⟨a, c, e, trivial⟩)
    obtain ⟨a2, c2, rfl, _⟩ := (show ∃ a c, v2 = .slice a G2.length c ∧ True from by obtain ⟨a, c, e, _⟩ := f2; exact ⟨a, c, e, trivial⟩)
    have F1 := Lib.hid (f1.wide HB4.out.size (Nat.le_refl _))
    have F2 := Lib.hid (f2.wide HB4.out.size (Nat.le_refl _))
    have B5 := Lib.hid (HB4.out.trans (hb5.mono HB4.out.size))
    clear f1 f2 hb5 C
    go_wp2_with fail
    exact bodyPost_ret (v := .tuple #[.slice a1 G1.length c1, .slice a2 G2.length c2, .bool true]) (by simp [results, Try.results18, go_sem]) rfl ⟨_, _, _, _, rfl, F1.out, F2.out, B5.out⟩
end

end Go.Proofs.Ytabfdaofikccmaa
