/- The program's FormText: nodes' texts by a builder. -/
import Derived.Test.YthpibeogphcnhaaFmBld
import Derived.Test.YthpibeogphcnhaaFmTextS
import Derived.Test.YthpibeogphcnhaaFmReach
namespace Go.Proofs.Ythpibeogphcnhaa
set_option linter.unusedVariables false
set_option linter.unusedSimpArgs false
open Go.RowKit

set_option maxRecDepth 100000 in
set_option maxHeartbeats 2000000 in
theorem writeOptions_calls (B b : Nat) (bs : List UInt8) (vt v : Value) (T : List ByteArray) (l : List Nat) (w : World) (lo hi lo' hi' : Nat) (hbd : IsB B b bs w) (hB : B ≤ w.heap.size) (hT : StrsIn w lo hi vt T) (hh : hi ≤ B) (hv : IntsZ w lo' hi' v (upL l)) (hh' : hi' ≤ B)
    (hx : ∀ x ∈ l, x < T.length) (hs : ∀ s ∈ T, s.size ≤ 4001) (hl : l.length ≤ 1000) (hbs : bs.length ≤ 1000000) :
    Calls Try.prog 106 #[.pointer (some ⟨b, 0, none⟩), v, vt] w fun e w' => e = .returned (.tuple #[]) ∧ IsB B b (bs ++ jC (optT T l)) w' ∧ Below B w w' := by
  have HB := Lib.hid fun k => jC_bound (T := T) (l := l) hs hx k
  have HT := Lib.hid hT
  have HV := Lib.hid hv
  have HS := Lib.hid hs
  have HX := Lib.hid hx
  have HBD := Lib.hid hbd
  obtain ⟨aoT, cT, rfl, _⟩ := hT
  obtain ⟨ao, c, rfl, hcap, _⟩ := hv
  have hlu : (upL l).length = l.length := by simp [upL]
  rw [hlu] at HV hcap ⊢
  clear hs hx hlu hbd
  go_enter Try.func106, Try.ntmps106
  go_wp2
  go_loopw [10] (fun i wr => ∃ k : Nat, k ≤ l.length ∧ i = .int .i64 k ∧ Hid (IsB B b (bs ++ jC ((optT T l).take k)) wr) ∧ Hid (Below B w wr)) (fun i _ => l.length - (intOf i).toNat)
  case atStart => exact ⟨0, Nat.zero_le _, rfl, Lib.hid (by rw [jC_zero, List.append_nil]; exact HBD.out), Lib.hid (Below.refl _ _)⟩
  case round =>
    obtain ⟨k, hk, rfl, hI, hb⟩ := hrel
    have hBr : B ≤ wr.heap.size := by have := hb.out.size; omega
    by_cases hlt : k < l.length
    · obtain ⟨x, hx⟩ := lt_get hlt
      have hxT := HX.out x (List.mem_of_getElem? hx)
      obtain ⟨t, ht⟩ := lt_get hxT
      obtain ⟨ao1, c1, e1, _, hn⟩ := HV.out
      obtain ⟨b1, off, hao, _, hb1, hc⟩ := hn k (x : Int) (by unfold upL; rw [List.getElem?_map, hx]; rfl)
      obtain ⟨ao2, c2, e2, hn2⟩ := HT.out
      obtain ⟨b2, off2, hao2, _, hb2, hc2⟩ := hn2 x t ht
      obtain ⟨q1, qz1, q2⟩ := slice_inj e1
      obtain ⟨q3, qz2, q4⟩ := slice_inj e2
      subst q1 q2 q3 q4 hao hao2
      clear hn hn2 e1 e2 qz1 qz2
      have d1 : wr.cell? ⟨b1, off + k, none⟩ = some (.int .i64 (x : Int)) := (bcell hb.out b1 _ (by omega)).trans hc
      have d2 := fun (W : World) (hW : Below B w W) => (bcell hW b2 (off2 + x) (by omega)).trans hc2
      have hts := HS.out t (List.mem_of_getElem? ht)
      have hss : (bs ++ jC ((optT T l).take k)).length ≤ 6000000 := by
        have h1 := HB.out k
        rw [List.length_append]
        have := Nat.mul_le_mul_right 4002 hl
        omega
      have a0 : (0 : Int) ≤ k := by omega
      have a1 : (k : Int) < l.length := by omega
      have a2 : (0 : Int) ≤ x := by omega
      have a3 : (x : Int) < T.length := by omega
      have HA := Lib.hid (optT_at hx ht)
      clear hx ht hc hc2
      by_cases h0 : 0 < k
      · have a4 : (0 : Int) < k := by omega
        have HQ : Hid (bs ++ jC ((optT T l).take k) ++ [44] ++ t.data.toList = bs ++ jC ((optT T l).take (k + 1))) := Lib.hid (by
          rw [jC_succ _ k _ HA.out h0]
          simp)
        have C1 := Lib.hid (wByte_calls B b (bs ++ jC ((optT T l).take k)) 44 44 rfl wr hI.out (by omega) hBr)
        go_wp2_with fail
        refine C1.out.mono ?_
        rintro e w1 ⟨rfl, hI1, hb1'⟩
        have HB1 := Lib.hid (hb.out.trans hb1')
        have d3 := d2 w1 HB1.out
        have C2 := Lib.hid (wStr_calls B b (bs ++ jC ((optT T l).take k) ++ [44]) t w1 hI1 (by rw [List.length_append]; simp; simp at hss; omega) (by omega) (by have := HB1.out.size; omega))
        clear hI1 hb1' C1 d2 hI
        go_wp2_with fail
        refine C2.out.mono ?_
        rintro e w2 ⟨rfl, hI2, hb2'⟩
        have HB2 := Lib.hid (HB1.out.trans hb2')
        have HI2 : Hid (IsB B b (bs ++ jC ((optT T l).take (k + 1))) w2) := Lib.hid (by rw [← HQ.out]; exact hI2)
        clear hI2 hb2' C2
        go_wp2
        go_roundw
        case rel => exact ⟨k + 1, by omega, by go_num, HI2, HB2⟩
        case measure => simp [intOf]; omega
      · have hk0 : k = 0 := by omega
        subst hk0
        simp only [Nat.add_zero] at d1
        have HQ : Hid (bs ++ jC ((optT T l).take 0) ++ t.data.toList = bs ++ jC ((optT T l).take 1)) := Lib.hid (by
          rw [jC_one _ _ HA.out, jC_zero]
          simp)
        have d3 := d2 wr hb.out
        have C2 := Lib.hid (wStr_calls B b (bs ++ jC ((optT T l).take 0)) t wr hI.out (by omega) (by omega) hBr)
        clear d2 hI
        go_wp2_with fail
        refine C2.out.mono ?_
        rintro e w2 ⟨rfl, hI2, hb2'⟩
        have HB2 := Lib.hid (hb.out.trans hb2')
        have HI2 : Hid (IsB B b (bs ++ jC ((optT T l).take 1)) w2) := Lib.hid (by rw [← HQ.out]; exact hI2)
        clear hI2 hb2' C2
        go_wp2
        go_roundw
        case rel => exact ⟨1, by omega, by go_num, HI2, HB2⟩
        case measure => simp [intOf]; omega
    · have hke : k = l.length := by omega
      subst hke
      have a1 : ¬ (l.length : Int) < l.length := by omega
      have HE : Hid (IsB B b (bs ++ jC (optT T l)) wr) := Lib.hid (by
        have : (optT T l).take l.length = optT T l := List.take_of_length_le (by unfold optT; simp)
        have h := hI.out
        rwa [this] at h)
      clear hI
      go_wp2
      go_end0
      exact ⟨rfl, HE.out, hb.out⟩

set_option maxRecDepth 100000 in
set_option maxHeartbeats 2000000 in
theorem nodeText_calls (v1 v2 vt : Value) (T : List ByteArray) (nd : Nd) (w : World) (lo hi lo' hi' : Nat) (hT : StrsIn w lo hi vt T) (hh : hi ≤ w.heap.size) (hv1 : IntsZ w lo' hi' v1 (upL nd.1)) (hv2 : IntsZ w lo' hi' v2 (upL nd.2)) (hh' : hi' ≤ w.heap.size)
    (hx : ∀ x, x ∈ nd.1 ∨ x ∈ nd.2 → x < T.length) (hs : ∀ s ∈ T, s.size ≤ 4001) (hl : nd.1.length ≤ 24 ∧ nd.2.length ≤ 24) :
    Calls Try.prog 76 #[.agg #[v1, v2], vt] w fun e w' => e = .returned (.string ⟨(txtN (datT T) nd).toArray⟩) ∧ Below w.heap.size w w' := by
  have HT := Lib.hid fun W (hW : Below w.heap.size w W) => hT.below hW hh
  have H1 := Lib.hid fun W (hW : Below w.heap.size w W) => hv1.below hW hh'
  have H2 := Lib.hid fun W (hW : Below w.heap.size w W) => hv2.below hW hh'
  have HX := Lib.hid hx
  have HS := Lib.hid hs
  clear hT hv1 hv2 hx hs
  go_enter Try.func76, Try.ntmps76
  go_wp2_with fail
  have HBx : Hid (Below w.heap.size w ((w.alloc (.cells #[v1, v2] 69)).alloc (.cells #[.pointer none, .slice none 0 0] 129))) := Lib.hid (((Below.refl _ _).alloc (Nat.le_refl _) _).alloc (by simp) _)
  have hI0 : IsB (w.heap.size + 1) (w.heap.size + 1) [] ((w.alloc (.cells #[v1, v2] 69)).alloc (.cells #[.pointer none, .slice none 0 0] 129)) := by
    refine Or.inl ⟨by omega, .slice none 0 0, ?_, World.ownsRow_nil _ _ _ _, by simp [Value.ownBlock]⟩
    have h := heap_alloc_new (w.alloc (.cells #[v1, v2] 69)) (.cells #[.pointer none, .slice none 0 0] 129)
    rw [show (w.alloc (.cells #[v1, v2] 69)).heap.size = w.heap.size + 1 from by simp] at h
    exact h
  have k0 : ((w.alloc (.cells #[v1, v2] 69)).alloc (.cells #[.pointer none, .slice none 0 0] 129)).cell? ⟨w.heap.size, 0, none⟩ = some v1 := by go_simp
  have k1 : ((w.alloc (.cells #[v1, v2] 69)).alloc (.cells #[.pointer none, .slice none 0 0] 129)).cell? ⟨w.heap.size, 1, none⟩ = some v2 := by go_simp
  have hz0 : ((w.alloc (.cells #[v1, v2] 69)).alloc (.cells #[.pointer none, .slice none 0 0] 129)).heap.size = w.heap.size + 2 := by simp
  generalize (w.alloc (.cells #[v1, v2] 69)).alloc (.cells #[.pointer none, .slice none 0 0] 129) = W0 at HBx hI0 k0 k1 hz0 ⊢
  have HW := Lib.hid fun W (hW : Below (w.heap.size + 1) W0 W) => HBx.out.trans (hW.mono (Nat.le_succ _))
  have HK := Lib.hid fun W (hW : Below (w.heap.size + 1) W0 W) => And.intro ((bcell hW w.heap.size 0 (by omega)).trans k0) ((bcell hW w.heap.size 1 (by omega)).trans k1)
  have hJ := Lib.hid (txtN_bound (datT T) nd (fun x hx => by
    unfold datT at hx
    obtain ⟨s, hs, rfl⟩ := List.mem_map.1 hx
    rw [← bytes_size]
    exact HS.out s hs) hl.1 hl.2)
  have HTX : Hid (txtN (datT T) nd = [123] ++ jC (optT T nd.1) ++ [124] ++ jC (optT T nd.2) ++ [125]) := Lib.hid rfl
  have hj1 : (jC (optT T nd.1)).length ≤ 100000 := hJ.out.1
  have hj2 : (jC (optT T nd.2)).length ≤ 100000 := hJ.out.2
  have CO1 := Lib.hid fun W (hW : Below (w.heap.size + 1) W0 W) (bs : List UInt8) (hi0 : IsB (w.heap.size + 1) (w.heap.size + 1) bs W) (hb0 : bs.length ≤ 1000000) =>
    writeOptions_calls (w.heap.size + 1) (w.heap.size + 1) bs vt v1 T nd.1 W lo hi lo' hi' hi0 (by have := hW.size; omega) (HT.out W (HW.out W hW)) (by omega) (H1.out W (HW.out W hW)) (by omega) (fun x hx => HX.out x (Or.inl hx)) HS.out (by omega) hb0
  have CO2 := Lib.hid fun W (hW : Below (w.heap.size + 1) W0 W) (bs : List UInt8) (hi0 : IsB (w.heap.size + 1) (w.heap.size + 1) bs W) (hb0 : bs.length ≤ 1000000) =>
    writeOptions_calls (w.heap.size + 1) (w.heap.size + 1) bs vt v2 T nd.2 W lo hi lo' hi' hi0 (by have := hW.size; omega) (HT.out W (HW.out W hW)) (by omega) (H2.out W (HW.out W hW)) (by omega) (fun x hx => HX.out x (Or.inr hx)) HS.out (by omega) hb0
  have hwz : w.heap.size + 1 ≤ W0.heap.size := by omega
  generalize jC (optT T nd.1) = J1 at CO1 HTX hj1
  generalize jC (optT T nd.2) = J2 at CO2 HTX hj2
  have HTE : Hid (txtN (datT T) nd = 123 :: (J1 ++ 124 :: (J2 ++ [125]))) := Lib.hid (by rw [HTX.out]; simp)
  clear HT H1 H2 HX HS hJ k0 k1 HBx
  refine (wByte_calls _ _ [] 123 123 rfl W0 hI0 (by simp) hwz).mono ?_
  rintro e w1 ⟨rfl, hI1, hb1⟩
  have HB1 := Lib.hid hb1
  obtain ⟨p1, p2⟩ := HK.out w1 hb1
  have HI1 := Lib.hid hI1
  clear hb1 hI1 hI0
  go_wp2_with fail
  refine (CO1.out w1 HB1.out _ HI1.out (by simp)).mono ?_
  rintro e w2 ⟨rfl, hI2, hb2⟩
  have HB2 := Lib.hid (HB1.out.trans hb2)
  obtain ⟨p1, p2⟩ := HK.out w2 HB2.out
  have HI2 := Lib.hid hI2
  clear hb2 hI2 HI1
  go_wp2_with fail
  refine (wByte_calls _ _ _ 124 124 rfl w2 HI2.out (by simp; omega) (by have := HB2.out.size; omega)).mono ?_
  rintro e w3 ⟨rfl, hI3, hb3⟩
  have HB3 := Lib.hid (HB2.out.trans hb3)
  obtain ⟨p1, p2⟩ := HK.out w3 HB3.out
  have HI3 := Lib.hid hI3
  clear hb3 hI3 HI2
  go_wp2_with fail
  refine (CO2.out w3 HB3.out _ HI3.out (by simp; omega)).mono ?_
  rintro e w4 ⟨rfl, hI4, hb4⟩
  have HB4 := Lib.hid (HB3.out.trans hb4)
  have HI4 := Lib.hid hI4
  clear hb4 hI4 HI3
  go_wp2_with fail
  refine (wByte_calls _ _ _ 125 125 rfl w4 HI4.out (by simp; omega) (by have := HB4.out.size; omega)).mono ?_
  rintro e w5 ⟨rfl, hI5, hb5⟩
  have HB5 := Lib.hid (HB4.out.trans hb5)
  have HI5 := Lib.hid hI5
  clear hb5 hI5 HI4
  go_wp2_with fail
  refine (Try.Builder_String_any _ _ _ w5 HI5.out (by have := HB5.out.size; omega)).mono ?_
  rintro e w6 ⟨rfl, hb6⟩
  have HB6 := Lib.hid (HW.out w6 (HB5.out.trans hb6))
  clear hb6
  go_wp2_with fail
  go_ret
  exact ⟨by rw [HTE.out]; rfl, HB6.out⟩

/-- the row of texts while it is being filled -/
def rowTx (n : Nat) (t : List (List UInt8)) : List ByteArray := t.map (fun l => (⟨l.toArray⟩ : ByteArray)) ++ List.replicate (n - t.length) ByteArray.empty

theorem rowTx_made {base g n : Nat} {w : World} (h : w.ownsRow base 9 1 (.slice (some ⟨g, 0, none⟩) n n) n (madeCells (Value.string ByteArray.empty).cells (n * 1)).toList) : RowT base (.slice (some ⟨g, 0, none⟩) n n) n (rowTx n []) w := by
  have e : (madeCells (Value.string ByteArray.empty).cells (n * 1)).toList = (rowTx n []).map Value.string := by
    rw [Nat.mul_one]
    refine (made_one' (Value.string ByteArray.empty) n).trans ?_
    simp [rowTx]
  rw [e] at h
  exact ⟨h, by simp [rowTx]⟩

theorem rowTx_len (n : Nat) (t : List (List UInt8)) (h : t.length ≤ n) : (rowTx n t).length = n := by unfold rowTx; simp; omega
theorem rowTx_at (n : Nat) (t : List (List UInt8)) (k : Nat) (x : List UInt8) (h : t[k]? = some x) : (rowTx n t)[k]? = some ⟨x.toArray⟩ := by
  unfold rowTx
  rw [List.getElem?_append_left (by rw [List.length_map]; exact get_lt h), List.getElem?_map, h]
  rfl
theorem rowTx_dat (n : Nat) (t : List (List UInt8)) (x : Nat) (hx : x < t.length) : (datT (rowTx n t)).getD x [] = t.getD x [] := by
  obtain ⟨y, hy⟩ := lt_get hx
  unfold datT
  rw [List.getD_eq_getElem?_getD, List.getElem?_map, rowTx_at n t x y hy, List.getD_eq_getElem?_getD, hy]
  rfl
theorem rowTx_set (n : Nat) (t : List (List UInt8)) (x : List UInt8) (h : t.length < n) : (rowTx n t).set t.length ⟨x.toArray⟩ = rowTx n (t ++ [x]) := by
  unfold rowTx
  obtain ⟨m, hm⟩ : ∃ m, n - t.length = m + 1 := ⟨n - t.length - 1, by omega⟩
  have hm2 : n - (t ++ [x]).length = m := by rw [List.length_append, List.length_singleton]; omega
  rw [hm, hm2, List.set_append_right _ _ (by simp), List.length_map, Nat.sub_self, List.replicate_succ, List.set_cons_zero, List.map_append, List.append_assoc]
  rfl
theorem rowTx_small (n : Nat) (t : List (List UInt8)) (h : ∀ y ∈ t, y.length ≤ 4000) : ∀ s ∈ rowTx n t, s.size ≤ 4001 := fun s hs => by
  unfold rowTx at hs
  rcases List.mem_append.1 hs with hs | hs
  · obtain ⟨y, hy, rfl⟩ := List.mem_map.1 hs
    have := h y hy
    rw [bytes_size]
    show y.length ≤ 4001
    omega
  · rw [List.eq_of_mem_replicate hs]
    show 0 ≤ 4001
    omega
theorem txtN_congr (t t' : List (List UInt8)) (nd : Nd) (h : ∀ x, x ∈ nd.1 ∨ x ∈ nd.2 → t.getD x [] = t'.getD x []) : txtN t nd = txtN t' nd := by
  unfold txtN
  rw [List.map_congr_left (fun x hx => h x (Or.inl hx)), List.map_congr_left (fun x hx => h x (Or.inr hx))]

/-- the text that is told -/
def textV (f : List Nz) : List UInt8 := if goodB f && !longF (f.map downN) then (textsF (f.map downN)).getD (f.length - 1) [] else []

set_option maxRecDepth 100000 in
set_option maxHeartbeats 4000000 in
theorem textI_calls (v : Value) (f : List Nz) (w : World) (lo hi : Nat) (hh : hi ≤ w.heap.size) (hv : NodesZ w lo hi v f) :
    Calls Try.prog 43 #[.agg #[v]] w fun e w' => e = .returned (.tuple #[.string ⟨(textV f).toArray⟩, .bool (goodB f && !longF (f.map downN))]) ∧ Below w.heap.size w w' := by
  obtain ⟨i0, hi0, hz0, hz1, hz2⟩ := info_parts infoStrT
  have HV := Lib.hid hv
  have CG := Lib.hid fun (W : World) (hW : Below w.heap.size w W) => goodI_calls v f W lo hi (by have := hW.size; omega) (hv.below hW hh)
  obtain ⟨ao, c, rfl, hlm, _⟩ := hv
  have HB0 : Hid (Below w.heap.size w (w.alloc (.cells #[.slice ao f.length c] 26))) := Lib.hid ((Below.refl _ _).alloc (Nat.le_refl _) _)
  go_enter Try.func43, Try.ntmps43
  go_wp2_with fail
  refine (CG.out _ HB0.out).mono ?_
  rintro e w1 ⟨rfl, hb1⟩
  have hd1 : w1.cell? ⟨w.heap.size, 0, none⟩ = some (.slice ao f.length c) := (bcell hb1 _ 0 (by simp)).trans (by go_simp)
  have HB1 := Lib.hid (HB0.out.trans (hb1.mono (by simp)))
  clear hb1 CG
  cases hg : goodB f with
  | false =>
    have HG := Lib.hid hg
    have R : Hid (textV f = []) := Lib.hid (by unfold textV; rw [hg]; rfl)
    clear hg HV
    go_wp2
    exact bodyPost_ret (v := .tuple #[.string ⟨#[]⟩, .bool false]) (by simp [results, Try.results43, go_sem]) rfl ⟨by rw [R.out, HG.out]; rfl, HB1.out⟩
  | true =>
    have HG := Lib.hid hg
    have hG := (goodB_iff f).1 hg
    have hup := hG.2.1.up
    have hl0 := hG.1.1
    have hl1 := hG.1.2.1
    clear hg
    have hwl := block_of_cell hd1
    go_wp2_with (at_make; refine wpList_make_full _ rfl _ _ 94 rfl w1.heap.size 9 i0 (.string ByteArray.empty) 1 Try.underlying94 hi0 hz0 hz1 _ _ _ _ f.length rfl rfl (by first | rfl | (simp; done)) (by first | rfl | (simp; done)) (by rw [hz2]; omega) (by unfold maxLen; omega) (Nat.le_refl _) ?_; intro w3 hown hg3; have HR3 : Hid (RowT w1.heap.size (.slice (some ⟨w1.heap.size, 0, none⟩) f.length f.length) f.length (rowTx f.length []) w3) := Lib.hid (rowTx_made hown); have HB3 : Hid (Below w1.heap.size w1 w3) := Lib.hid ((Below.refl _ _).grown hg3 (Nat.le_refl _) (fun k hk => by cases hk)); have hd3 := (bcell HB3.out _ 0 hwl).trans hd1; clear hown hg3)
    have HVF : Hid (NodesZ w lo hi (.slice ao f.length c) ((f.map downN).map upN)) := Lib.hid (by rw [hup.1]; exact HV.out)
    have hFl : Hid ((f.map downN).length = f.length) := Lib.hid (by simp)
    have HU := Lib.hid hup.2.under
    have HC : Hid (∀ nd ∈ f.map downN, nd.1.length ≤ 24 ∧ nd.2.length ≤ 24) := Lib.hid (fun nd hnd => by
      obtain ⟨n0, h0, rfl⟩ := List.mem_map.1 hnd
      have := hG.1.2.2 n0 h0
      unfold downN downL
      simp
      omega)
    have HTV : Hid (longF (f.map downN) = false → textV f = (textsF (f.map downN)).getD (f.length - 1) []) := Lib.hid (fun h => by unfold textV; rw [HG.out, h]; rfl)
    have HTN : Hid (longF (f.map downN) = true → textV f = []) := Lib.hid (fun h => by unfold textV; rw [HG.out, h]; rfl)
    have HB30 : Hid (Below w.heap.size w w3) := Lib.hid (HB1.out.trans (HB3.out.mono HB1.out.size))
    have hwz1 := HB1.out.size
    clear hG hup HV HB3
    generalize hFF : f.map downN = F at HVF hFl HU HC HTV HTN
    have HFD := Lib.hid hFF
    clear hFF
    go_loopw [17] (fun i wr => ∃ k : Nat, k ≤ f.length ∧ i = .int .i64 k ∧ Hid (RowT w1.heap.size (.slice (some ⟨w1.heap.size, 0, none⟩) f.length f.length) f.length (rowTx f.length (textsF (F.take k))) wr) ∧ Hid (∀ t ∈ textsF (F.take k), t.length ≤ 4000) ∧ Hid (Below w.heap.size w wr) ∧ wr.cell? ⟨w.heap.size, 0, none⟩ = some (.slice ao f.length c)) (fun i _ => f.length - (intOf i).toNat)
    case atStart => exact ⟨0, Nat.zero_le _, rfl, HR3, Lib.hid (fun t ht => by simp [textsF] at ht), HB30, hd3⟩
    case round =>
      obtain ⟨k, hk, rfl, hR, hsm, hb, hd⟩ := hrel
      clear HR3 HB30 hd3
      have htl : Hid ((textsF (F.take k)).length = k) := Lib.hid (by rw [textsF_len, List.length_take, hFl.out]; omega)
      have hgl : w1.heap.size < wr.heap.size := (World.ownsRow.lt hR.out.1 _ rfl).2
      by_cases hlt : k < f.length
      · obtain ⟨nd, hx⟩ := lt_get (l := F) (i := k) (by rw [hFl.out]; exact hlt)
        obtain ⟨ao1, c1, e1, _, hn⟩ := HVF.out.below hb.out hh
        obtain ⟨b, off, v1, v2, hao, hlo, hhi, p1, p2, i1, i2⟩ := hn k (upN nd) (by rw [List.getElem?_map, hx]; rfl)
        obtain ⟨q1, qz, q2⟩ := slice_inj e1
        subst q1 q2 hao
        clear hn e1 qz
        obtain ⟨a1, n1, d1, hf1⟩ : ∃ a n c, v1 = .slice a n c := by obtain ⟨a, c, h, _⟩ := i1; exact ⟨a, _, c, h⟩
        obtain ⟨a2, n2, d2, hf2⟩ : ∃ a n c, v2 = .slice a n c := by obtain ⟨a, c, h, _⟩ := i2; exact ⟨a, _, c, h⟩
        subst hf1 hf2
        have hcp := HC.out nd (List.mem_of_getElem? hx)
        have hun := HU.out k nd hx
        have b0 : (0 : Int) ≤ k := by omega
        have b1 : (k : Int) < f.length := by omega
        have HTA := Lib.hid (textsF_take F k nd hx)
        have HAT := Lib.hid (textsF_at F k nd hx)
        have hba : Below wr.heap.size wr (wr.alloc (.cells #[.slice a1 n1 d1, .slice a2 n2 d2] 69)) := (Below.refl _ _).alloc (Nat.le_refl _) _
        have hTl : (rowTx f.length (textsF (F.take k))).length = f.length := rowTx_len _ _ (by rw [htl.out]; omega)
        have hst := (hR.out.below hba).strs
        rw [hTl] at hst
        have hcg : txtN (datT (rowTx f.length (textsF (F.take k)))) nd = txtN (textsF (F.take k)) nd := txtN_congr _ _ _ (fun x hx2 => rowTx_dat _ _ _ (by rw [htl.out]; exact hun x hx2))
        have CN := nodeText_calls (.slice a1 n1 d1) (.slice a2 n2 d2) (.slice (some ⟨w1.heap.size, 0, none⟩) f.length f.length) (rowTx f.length (textsF (F.take k))) nd _ w1.heap.size (w1.heap.size + 1) lo hi hst (by simp; omega) (i1.below hba (by have := hb.out.size; omega)) (i2.below hba (by have := hb.out.size; omega)) (by have := hb.out.size; simp; omega) (fun x hx2 => by rw [hTl]; have := hun x hx2; omega) (rowTx_small _ _ hsm.out) hcp
        rw [hcg] at CN
        have HCN := Lib.hid CN
        have HRW := Lib.hid fun W (hW : Below wr.heap.size wr W) => hR.out.below hW
        have HSET : Hid ((rowTx f.length (textsF (F.take k))).set k ⟨(txtN (textsF (F.take k)) nd).toArray⟩ = rowTx f.length (textsF (F.take (k + 1)))) := Lib.hid (by
          have h := rowTx_set f.length (textsF (F.take k)) (txtN (textsF (F.take k)) nd) (by rw [htl.out]; exact hlt)
          rw [htl.out] at h
          rw [h, HTA.out])
        have HBW := Lib.hid fun W (hW : Below wr.heap.size wr W) => hb.out.trans (hW.mono hb.out.size)
        have HDW := Lib.hid fun W (hW : Below wr.heap.size wr W) => (bcell hW w.heap.size 0 (by omega)).trans hd
        have HOLD : Hid (∃ y, (rowTx f.length (textsF (F.take k)))[k]? = some y) := Lib.hid (lt_get (by rw [hTl]; exact hlt))
        have HBA := Lib.hid hba
        clear hx hst hcg CN i1 i2 hba hTl hR hun hb
        generalize txtN (textsF (F.take k)) nd = E at HTA HAT HCN HSET
        go_wp2_with fail
        refine HCN.out.mono ?_
        rintro e w4 ⟨rfl, hb4⟩
        have hB4 : Below wr.heap.size wr w4 := HBA.out.trans (hb4.mono (by simp))
        have hR4 := HRW.out w4 hB4
        obtain ⟨y, hy⟩ := HOLD.out
        have o1 : w4.cell? ⟨w1.heap.size, k, none⟩ = some (.string y) := by
          rw [World.ownsRow.cellAt hR4.1 k (by omega), List.getElem?_map, hy]
          rfl
        have o2 : w4.frozen? ⟨w1.heap.size, k, none⟩ = false := World.ownsRow.frozenAt hR4.1 k
        have hd4 : (w4.setCell ⟨w1.heap.size, k, none⟩ (.string ⟨E.toArray⟩)).cell? ⟨w.heap.size, 0, none⟩ = some (.slice (some ⟨b, off, none⟩) f.length c) := by
          rw [World.cell?_setCell_other _ _ _ _ (fun e => by injection e with e _ _; omega)]
          exact HDW.out w4 hB4
        have HR5 : Hid (RowT w1.heap.size (.slice (some ⟨w1.heap.size, 0, none⟩) f.length f.length) f.length (rowTx f.length (textsF (F.take (k + 1)))) (w4.setCell ⟨w1.heap.size, k, none⟩ (.string ⟨E.toArray⟩))) := Lib.hid ⟨by
          rw [← HSET.out, List.map_set]
          exact (World.ownsRow.stored hR4.1 k (.string ⟨E.toArray⟩)).1, by rw [← HSET.out, List.length_set]; exact hR4.2⟩
        have HB5 : Hid (Below w.heap.size w (w4.setCell ⟨w1.heap.size, k, none⟩ (.string ⟨E.toArray⟩))) := Lib.hid ((HBW.out w4 hB4).setCell (p := ⟨w1.heap.size, k, none⟩) (by show w.heap.size ≤ w1.heap.size; omega) _)
        have o3 : (w4.setCell ⟨w1.heap.size, k, none⟩ (.string ⟨E.toArray⟩)).cell? ⟨w1.heap.size, k, none⟩ = some (.string ⟨E.toArray⟩) := World.cell?_setCell_same _ _ _ o1
        have hEs : (⟨E.toArray⟩ : ByteArray).size = E.length := by rw [bytes_size]
        clear hR4 hB4 hb4 hy HOLD HRW HCN HSET HDW HBW
        by_cases hbig : 4000 < E.length
        · have q1 : (4000 : Int) < E.length := by omega
          have HL : Hid (longF F = true) := Lib.hid (by
            unfold longF
            rw [List.any_eq_true]
            exact ⟨E, List.mem_of_getElem? HAT.out, by simpa using hbig⟩)
          go_wp2
          exact bodyPost_ret (v := .tuple #[.string ⟨#[]⟩, .bool false]) (by simp [results, Try.results43, go_sem]) rfl ⟨by rw [HTN.out HL.out, HFD.out, HL.out, HG.out]; rfl, HB5.out⟩
        · have q1 : ¬ (4000 : Int) < E.length := by omega
          have HSM : Hid (∀ t ∈ textsF (F.take (k + 1)), t.length ≤ 4000) := Lib.hid (fun t ht => by
            rw [HTA.out] at ht
            rcases List.mem_append.1 ht with ht | ht
            · exact hsm.out t ht
            · simp only [List.mem_singleton] at ht
              subst ht
              omega)
          go_wp2
          go_roundw
          case rel => exact ⟨k + 1, by omega, by go_num, HR5, HSM, HB5, hd4⟩
          case measure => simp [intOf]; omega
      · have hke : k = f.length := by omega
        subst hke
        have b1 : ¬ (f.length : Int) < f.length := by omega
        have hFt : F.take f.length = F := List.take_of_length_le (by rw [hFl.out]; exact Nat.le_refl _)
        rw [hFt] at hR hsm htl
        have HL : Hid (longF F = false) := Lib.hid (by
          unfold longF
          rw [← Bool.not_eq_true, List.any_eq_true]
          rintro ⟨t, ht, h⟩
          have := hsm.out t ht
          simp at h
          omega)
        obtain ⟨y, hy⟩ := lt_get (l := textsF F) (i := f.length - 1) (by rw [htl.out]; omega)
        have o1 : wr.cell? ⟨w1.heap.size, f.length - 1, none⟩ = some (.string ⟨y.toArray⟩) := by
          rw [World.ownsRow.cellAt hR.out.1 (f.length - 1) (by omega), List.getElem?_map, rowTx_at _ _ _ y hy]
          rfl
        have HY : Hid (textV f = y) := Lib.hid (by rw [HTV.out HL.out, List.getD_eq_getElem?_getD, hy]; rfl)
        have hw1 : IntKind.i64.wrap ((f.length : Int) - 1) = (f.length : Int) - 1 := IntWalk.i64_in _ (by omega)
        have hw2 : (0 : Int) ≤ (f.length : Int) - 1 := by omega
        have hw3 : (f.length : Int) - 1 < f.length := by omega
        have hw4 : ((f.length : Int) - 1).toNat = f.length - 1 := by omega
        clear hy hR hsm hFt
        go_wp2
        exact bodyPost_ret (v := .tuple #[.string ⟨y.toArray⟩, .bool true]) (by simp [results, Try.results43, go_sem]) rfl ⟨by rw [HY.out, HFD.out, HL.out, HG.out]; rfl, hb.out⟩

end Go.Proofs.Ythpibeogphcnhaa
