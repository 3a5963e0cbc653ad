/- The model's l3Text and FormText. -/
import Derived.Test.YthpibeogphcnhaaFmJoinS
import Derived.Deep.DeepCutAuto
import Derived.BigQuiet
import Derived.Lib.Split
import Derived.Test.YthpibeogphcnhaaFmGoodI
namespace Go.Proofs.Ythpibeogphcnhaa
set_option linter.unusedVariables false
set_option linter.unusedSimpArgs false
open Go.RowKit

theorem infoStrT : (Try.prog.info? 9).map (fun i => (i.zero, i.size, i.bytes)) = some (some (.string ByteArray.empty), 1, 16) := by kernel_rfl

/-- a row of texts of the call's own -/
def RowT (base : Nat) (v : Value) (n : Nat) (T : List ByteArray) (w : World) : Prop := w.ownsRow base 9 1 v n (T.map Value.string) ∧ T.length = n

theorem RowT.below {base n : Nat} {v : Value} {T : List ByteArray} {w w' : World} (h : RowT base v n T w) (hb : Below w.heap.size w w') : RowT base v n T w' :=
  ⟨own_only h.1 (Only.of_below (F := fun _ => False) hb) (fun _ _ => id), h.2⟩

theorem RowT.strs {base n g c : Nat} {T : List ByteArray} {w : World} (h : RowT base (.slice (some ⟨g, 0, none⟩) n c) n T w) : StrsIn w g (g + 1) (.slice (some ⟨g, 0, none⟩) T.length c) T := by
  obtain ⟨h1, h2⟩ := h
  refine ⟨_, c, rfl, fun j x hx => ⟨g, 0, rfl, Nat.le_refl _, Nat.lt_succ_self _, ?_⟩⟩
  have hj := get_lt hx
  rw [Nat.zero_add, World.ownsRow.cellAt h1 j (by omega), List.getElem?_map, hx]
  rfl

theorem datT_len (T : List ByteArray) : (datT T).length = T.length := by simp [datT]

theorem txtN_bound (t : List (List UInt8)) (nd : Nd) (h : ∀ x ∈ t, x.length ≤ 4001) (h1 : nd.1.length ≤ 24) (h2 : nd.2.length ≤ 24) : (jC (nd.1.map (fun x => t.getD x []))).length ≤ 100000 ∧ (jC (nd.2.map (fun x => t.getD x []))).length ≤ 100000 := by
  have key : ∀ l : List Nat, l.length ≤ 24 → (jC (l.map (fun x => t.getD x []))).length ≤ 100000 := fun l hl => by
    have h3 := jC_len (l.map (fun x => t.getD x [])) 4001 (fun y hy => by
      obtain ⟨x, _, rfl⟩ := List.mem_map.1 hy
      rw [List.getD_eq_getElem?_getD]
      cases hx : t[x]? with
      | none => simp
      | some z => exact h z (List.mem_of_getElem? hx))
    rw [List.length_map] at h3
    have := Nat.mul_le_mul_right 4002 hl
    omega
  exact ⟨key _ h1, key _ h2⟩

theorem textsC_small (f : List Nd) : ∀ t ∈ textsC f, t.length ≤ 4001 := by
  induction f using snocInd with
  | nil => intro t ht; simp [textsC] at ht
  | snoc f nd ih =>
    intro t ht
    rw [textsC_snoc] at ht
    rcases List.mem_append.1 ht with ht | ht
    · exact ih t ht
    · simp only [List.mem_singleton] at ht
      subst ht
      rw [List.length_take]
      omega

set_option maxRecDepth 100000 in
set_option maxHeartbeats 4000000 in
theorem l3Text_calls (v : Value) (f : List Nd) (w : World) (lo hi : Nat) (hh : hi ≤ w.heap.size) (hv : NodesZ w lo hi v (f.map upN)) (hu : Under f) (h0 : 0 < f.length) (hl : f.length ≤ 120) (hcap : ∀ nd ∈ f, nd.1.length ≤ 24 ∧ nd.2.length ≤ 24) :
    Calls Try.prog 75 #[.agg #[v]] w fun e w' => e = .returned (.string ⟨((textsC f).getD (f.length - 1) []).toArray⟩) ∧ Below w.heap.size w w' := by
  obtain ⟨i0, hi0, hz0, hz1, hz2⟩ := info_parts infoStrT
  have HV := Lib.hid hv
  have HU := Lib.hid hu
  have HC := Lib.hid hcap
  obtain ⟨ao, c0, rfl, hlm, _⟩ := hv
  have hlu : (f.map upN).length = f.length := by simp
  rw [hlu] at HV hlm ⊢
  clear hu hcap hlu
  have HB0 : Hid (Below w.heap.size w ((w.alloc (.cells #[.slice ao f.length c0] 26)).alloc (.cells #[] 9))) := Lib.hid (((Below.refl _ _).alloc (Nat.le_refl _) _).alloc (by simp) _)
  have hd0 : ((w.alloc (.cells #[.slice ao f.length c0] 26)).alloc (.cells #[] 9)).cell? ⟨w.heap.size, 0, none⟩ = some (.slice ao f.length c0) := by go_simp
  have HR0 : Hid (RowT (w.heap.size + 1) (.slice (some ⟨w.heap.size + 1, 0, none⟩) 0 0) 0 [] ((w.alloc (.cells #[.slice ao f.length c0] 26)).alloc (.cells #[] 9))) := Lib.hid ⟨by
    have h := World.ownsRow_lit (base := w.heap.size + 1) (e := 9) (size := 1) (w.alloc (.cells #[.slice ao f.length c0] 26)) #[] 0 (by simp) (by unfold maxLen; omega) rfl
    rw [show (w.alloc (.cells #[.slice ao f.length c0] 26)).heap.size = w.heap.size + 1 from by simp] at h
    exact h, rfl⟩
  go_enter Try.func75, Try.ntmps75
  go_wp2
  go_loopw [3, 4] (fun q i wr => ∃ (k g c : Nat) (T : List ByteArray), k ≤ f.length ∧ i = .int .i64 k ∧ q = .slice (some ⟨g, 0, none⟩) k c ∧ Hid (RowT (w.heap.size + 1) (.slice (some ⟨g, 0, none⟩) k c) k T wr) ∧ Hid (datT T = textsC (f.take k)) ∧ Hid (Below w.heap.size w wr) ∧ wr.cell? ⟨w.heap.size, 0, none⟩ = some (.slice ao f.length c0)) (fun _ i _ => f.length - (intOf i).toNat)
  case atStart => exact ⟨0, w.heap.size + 1, 0, [], Nat.zero_le _, rfl, rfl, HR0, Lib.hid rfl, HB0, hd0⟩
  case round =>
    obtain ⟨k, g, c, T, hk, rfl, rfl, hR, hT, hb, hd⟩ := hrel
    clear hd0 HB0 HR0
    have hTl := hR.out.2
    have hgl0 : w.heap.size + 1 ≤ g ∧ g < wr.heap.size := World.ownsRow.lt hR.out.1 _ rfl
    have hgl : w.heap.size ≤ g ∧ g < wr.heap.size := ⟨by omega, hgl0.2⟩
    have hwz := hb.out.size
    have HTS : Hid (∀ s ∈ T, s.size ≤ 4001) := Lib.hid (fun s hs => by
      have := textsC_small (f.take k) s.data.toList (by rw [← hT.out]; unfold datT; exact List.mem_map.2 ⟨s, hs, rfl⟩)
      rw [bytes_size]
      exact this)
    by_cases hlt : k < f.length
    · obtain ⟨nd, hx⟩ := lt_get hlt
      obtain ⟨ao1, c1, e1, _, hn⟩ := HV.out.below hb.out hh
      obtain ⟨b, off, v1, v2, hao, hlo, hhi, p1, p2, i1, i2⟩ := hn k (upN nd) (by rw [List.getElem?_map, hx]; rfl)
      rw [List.length_map] at e1
      obtain ⟨q1, _, q2⟩ := slice_inj e1
      subst q1 q2 hao
      clear hn e1
      have hcp := HC.out nd (List.mem_of_getElem? hx)
      have hun := HU.out k nd hx
      have b0 : (0 : Int) ≤ k := by omega
      have b1 : (k : Int) < f.length := by omega
      have hst := hR.out.strs
      rw [hTl] at hst
      have C1 := Lib.hid fun m => l3Join_calls (.slice (some ⟨g, 0, none⟩) k c) v1 T nd.1 (wr.drewN m) g (g + 1) lo hi (by rw [hTl] at *; exact hst) i1 (fun x hx => by rw [hTl]; exact hun x (Or.inl hx)) HTS.out (by omega) (by omega)
      have C2 := Lib.hid fun m => l3Join_calls (.slice (some ⟨g, 0, none⟩) k c) v2 T nd.2 (wr.drewN m) g (g + 1) lo hi (by rw [hTl] at *; exact hst) i2 (fun x hx => by rw [hTl]; exact hun x (Or.inr hx)) HTS.out (by omega) (by omega)
      have hbd := txtN_bound (datT T) nd (fun x hx => by rw [hT.out] at hx; exact textsC_small _ x hx) hcp.1 hcp.2
      have HN := Lib.hid (textsC_take f k nd hx)
      have hE : txtN (textsC (f.take k)) nd = [123] ++ jC (optT T nd.1) ++ [124] ++ jC (optT T nd.2) ++ [125] := by
        unfold txtN optT
        rw [hT.out]
      rw [hE] at HN
      have hj1 : (jC (optT T nd.1)).length ≤ 100000 := hbd.1
      have hj2 : (jC (optT T nd.2)).length ≤ 100000 := hbd.2
      generalize jC (optT T nd.1) = J1 at C1 HN hj1
      generalize jC (optT T nd.2) = J2 at C2 HN hj2
      clear hE hbd i1 i2 hst hx
      have HLN : Hid (([123] ++ J1 ++ [124] ++ J2 ++ [125] : List UInt8).length = J1.length + J2.length + 3) := Lib.hid (by simp; omega)
      go_upto_region 5 with fail
      go_quiet ((go_at_call 104; first | (with_reducible exact Calls.quiet_of (C1.out _)) | (with_reducible exact Calls.quiet_of (C2.out _))))
      have HB5 : Hid (Below w.heap.size w (wr.drewN nq)) := Lib.hid (below_drewN hb.out nq)
      have HR5 : Hid (RowT (w.heap.size + 1) (.slice (some ⟨g, 0, none⟩) k c) k T (wr.drewN nq)) := hR
      have hd5 : (wr.drewN nq).cell? ⟨w.heap.size, 0, none⟩ = some (.slice (some ⟨b, off, none⟩) f.length c0) := hd
      have hw5 : w.heap.size ≤ (wr.drewN nq).heap.size := HB5.out.size
      have hwl5 : w.heap.size < (wr.drewN nq).heap.size := block_of_cell hd
      generalize wr.drewN nq = w5 at HB5 HR5 hd5 hw5 hwl5 ⊢
      have HSS : Hid (((⟨#[123]⟩ : ByteArray) ++ ⟨J1.toArray⟩ ++ ⟨#[124]⟩ ++ ⟨J2.toArray⟩ ++ ⟨#[125]⟩).data.toList = [123] ++ J1 ++ [124] ++ J2 ++ [125]) := Lib.hid (by simp [bytes_app])
      generalize ((⟨#[123]⟩ : ByteArray) ++ ⟨J1.toArray⟩ ++ ⟨#[124]⟩ ++ ⟨J2.toArray⟩ ++ ⟨#[125]⟩) = S at HSS ⊢
      generalize ([123] ++ J1 ++ [124] ++ J2 ++ [125] : List UInt8) = E at HSS HN HLN
      have hSz : S.size = J1.length + J2.length + 3 := by rw [bytes_size, HSS.out, HLN.out]
      clear HLN hR hd hb p1 p2 C1 C2
      by_cases hbig : 4001 < S.size
      · have q1 : (4001 : Int) < S.size := by omega
        have q2 : (4001 : Int) ≤ S.size := by omega
        have HPP : Hid ((S.extract 0 4001).data.toList = E.take 4001) := Lib.hid (by rw [Lib.extract_data, HSS.out]; rfl)
        go_wp2_with (at_builtin; refine wpList_append_own _ rfl _ _ 94 rfl (w.heap.size + 1) 9 i0 (.string ByteArray.empty) 1 16 Try.underlying94 hi0 hz0 hz1 hz2 rfl (by decide) _ _ _ rfl (HR5.out.1.alloc _) ⟨w5.heap.size, 0, none⟩ 1 1 [.string (S.extract 0 4001)] rfl rfl ?c1 ?c2 ?c3 ?c4 ?c5 ?_)
        case c2 => first | rfl | (intro u hu; simp at hu; subst hu; rfl)
        case c3 => unfold maxLen; omega
        case c4 => omega
        intro v6 w6 hown6 hgrow6 hnil6
        obtain ⟨g6, c6, rfl, hg60, hg61⟩ := hown6.form (by omega)
        have HB6 : Hid (Below w.heap.size w w6) := Lib.hid ((HB5.out.alloc HB5.out.size _).grown hgrow6 (HB5.out.alloc HB5.out.size _).size (fun q hq => by have := (World.ownsRow.lt HR5.out.1 q hq).1; omega))
        have hd6 : w6.cell? ⟨w.heap.size, 0, none⟩ = some (.slice (some ⟨b, off, none⟩) f.length c0) := (hgrow6.cell_far ⟨w.heap.size, 0, none⟩ (by simp; omega) (fun e => by injection e with e; have h1 : w.heap.size = g := e; omega)).trans (by go_simp)
        have HR6 : Hid (RowT (w.heap.size + 1) (.slice (some ⟨g6, 0, none⟩) (k + 1) c6) (k + 1) (T ++ [S.extract 0 4001]) w6) := Lib.hid ⟨by rw [List.map_append]; exact hown6, by simp [hTl]⟩
        have HT6 : Hid (datT (T ++ [S.extract 0 4001]) = textsC (f.take (k + 1))) := Lib.hid (by
          rw [HN.out, ← hT.out]
          unfold datT
          rw [List.map_append, List.map_singleton, HPP.out])
        clear hown6 hgrow6 hnil6 HR5 HB5
        go_wp2
        go_roundw
        case rel => exact ⟨k + 1, g6, c6, _, by omega, by go_num, rfl, HR6, HT6, HB6, hd6⟩
        case measure => simp [intOf]; omega
      · have q1 : ¬ (4001 : Int) < S.size := by omega
        have HPP : Hid (S.data.toList = E.take 4001) := Lib.hid (by
          rw [HSS.out]
          refine (List.take_of_length_le ?_).symm
          rw [← HSS.out, ← bytes_size]
          omega)
        go_wp2_with (at_builtin; refine wpList_append_own _ rfl _ _ 94 rfl (w.heap.size + 1) 9 i0 (.string ByteArray.empty) 1 16 Try.underlying94 hi0 hz0 hz1 hz2 rfl (by decide) _ _ _ rfl (HR5.out.1.alloc _) ⟨w5.heap.size, 0, none⟩ 1 1 [.string S] rfl rfl ?e1 ?e2 ?e3 ?e4 ?e5 ?_)
        case e2 => first | rfl | (intro u hu; simp at hu; subst hu; rfl)
        case e3 => unfold maxLen; omega
        case e4 => omega
        intro v6 w6 hown6 hgrow6 hnil6
        obtain ⟨g6, c6, rfl, hg60, hg61⟩ := hown6.form (by omega)
        have HB6 : Hid (Below w.heap.size w w6) := Lib.hid ((HB5.out.alloc HB5.out.size _).grown hgrow6 (HB5.out.alloc HB5.out.size _).size (fun q hq => by have := (World.ownsRow.lt HR5.out.1 q hq).1; omega))
        have hd6 : w6.cell? ⟨w.heap.size, 0, none⟩ = some (.slice (some ⟨b, off, none⟩) f.length c0) := (hgrow6.cell_far ⟨w.heap.size, 0, none⟩ (by simp; omega) (fun e => by injection e with e; have h1 : w.heap.size = g := e; omega)).trans (by go_simp)
        have HR6 : Hid (RowT (w.heap.size + 1) (.slice (some ⟨g6, 0, none⟩) (k + 1) c6) (k + 1) (T ++ [S]) w6) := Lib.hid ⟨by rw [List.map_append]; exact hown6, by simp [hTl]⟩
        have HT6 : Hid (datT (T ++ [S]) = textsC (f.take (k + 1))) := Lib.hid (by
          rw [HN.out, ← hT.out]
          unfold datT
          rw [List.map_append, List.map_singleton, HPP.out])
        clear hown6 hgrow6 hnil6 HR5 HB5
        go_wp2
        go_roundw
        case rel => exact ⟨k + 1, g6, c6, _, by omega, by go_num, rfl, HR6, HT6, HB6, hd6⟩
        case measure => simp [intOf]; omega
    · have hke : k = f.length := by omega
      subst hke
      have b1 : ¬ (f.length : Int) < f.length := by omega
      have HE : Hid (datT T = textsC f) := Lib.hid (by rw [hT.out, List.take_length])
      have hst := hR.out.strs
      obtain ⟨s, hs⟩ := lt_get (l := T) (i := f.length - 1) (by omega)
      obtain ⟨ao3, c3, e3, hn3⟩ := hst
      obtain ⟨b3, off3, hao3, _, _, hc3⟩ := hn3 (f.length - 1) s hs
      obtain ⟨q1, _, _⟩ := slice_inj e3
      rw [← q1] at hao3
      injection hao3 with hao3
      injection hao3 with h3 h4
      subst h3 h4
      rw [Nat.zero_add] at hc3
      have HSV : Hid (s = ⟨((textsC f).getD (f.length - 1) []).toArray⟩) := Lib.hid (by
        refine str_of ?_
        rw [← HE.out]
        unfold datT
        rw [List.getD_eq_getElem?_getD, List.getElem?_map, hs]
        rfl)
      have hw1 : IntKind.i64.wrap ((f.length : Int) - 1) = (f.length : Int) - 1 := IntWalk.i64_in _ (by omega)
      have hw2 : (0 : Int) ≤ (f.length : Int) - 1 := by omega
      have hw3 : (f.length : Int) - 1 < f.length := by omega
      have hw4 : ((f.length : Int) - 1).toNat = f.length - 1 := by omega
      clear hs hn3 q1 e3 hR hT
      go_wp2
      go_ret
      exact ⟨by rw [HSV.out]; rfl, hb.out⟩

end Go.Proofs.Ythpibeogphcnhaa
