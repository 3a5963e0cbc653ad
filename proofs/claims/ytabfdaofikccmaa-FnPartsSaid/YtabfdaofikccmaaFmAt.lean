/- spec.l1Most, spec.l3At, spec.l3Sorted. -/
import Derived.Test.YtabfdaofikccmaaFmPut
namespace Go.Proofs.Ytabfdaofikccmaa
open Go.RowKit
theorem most_calls (x y : Nat) (w : World) : Calls Try.prog 107 #[.int .i64 (x : Int), .int .i64 (y : Int)] w fun e w' => e = .returned (.int .i64 ((max x y : Nat) : Int)) ∧ w' = w := by
  by_cases h : y < x
  · have hi : (y : Int) < x := by omega
    have HR : Hid (((max x y : Nat) : Int) = x) := Lib.hid (by omega)
    go_enter Try.func107, Try.ntmps107
    go_wp2
    go_ret
    exact ⟨ret_int HR.out.symm, rfl⟩
  · have hi : ¬ (y : Int) < x := by omega
    have HR : Hid (((max x y : Nat) : Int) = y) := Lib.hid (by omega)
    go_enter Try.func107, Try.ntmps107
    go_wp2
    go_ret
    exact ⟨ret_int HR.out.symm, rfl⟩
theorem foldput_snoc (l : List Nat) (x : Nat) : sortd (l ++ [x]) = putN (sortd l) x := by simp [sortd, List.foldl_append]
theorem sortd_len (l : List Nat) : (sortd l).length ≤ l.length := by
  induction l using snocInd with
  | nil => simp [sortd]
  | snoc l x ih =>
    rw [foldput_snoc]
    have : ∀ (m : List Nat) (y : Nat), (putN m y).length ≤ m.length + 1 := fun m y => by
      induction m with
      | nil => simp [putN]
      | cons z m ihm =>
        unfold putN
        split
        · simp only [List.length_cons]; omega
        · split
          · simp
          · simp
    have h1 := this (sortd l) x
    simp only [List.length_append, List.length_singleton]
    omega
/-- a literal without elements -/
theorem ints_empty (w : World) : IntsZ (w.alloc (.cells #[] 3)) w.heap.size (w.heap.size + 1) (.slice (some ⟨w.heap.size, 0, none⟩) 0 0) (upL []) :=
  ⟨_, _, rfl, by simp [upL], fun j x hx => by simp [upL] at hx⟩
set_option maxHeartbeats 1000000 in
theorem sorted_calls (v : Value) (L : List Nat) (w : World) (lo hi : Nat) (hh : hi ≤ w.heap.size) (hv : IntsZ w lo hi v (upL L)) (hl : L.length ≤ 1000000) (hx : ∀ x ∈ L, x ≤ 1000000) :
    Calls Try.prog 96 #[v] w fun e w' => ∃ b off c, e = .returned (.slice (some ⟨b, off, none⟩) (sortd L).length c) ∧ IntsZ w' w.heap.size w'.heap.size (.slice (some ⟨b, off, none⟩) (sortd L).length c) (upL (sortd L)) ∧ w.heap.size ≤ b ∧ b < w'.heap.size ∧ Below w.heap.size w w' := by
  have HV := Lib.hid hv
  have HX := Lib.hid hx
  have hLL : (upL L).length = L.length := by unfold upL; simp
  obtain ⟨ao, c, rfl, _, _⟩ := hv
  rw [hLL] at HV ⊢
  clear hLL hx
  go_enter Try.func96, Try.ntmps96
  go_wp2
  go_loopw [3, 4] (fun q i wr => ∃ (k b off c : Nat), k ≤ L.length ∧ i = .int .i64 k ∧ q = .slice (some ⟨b, off, none⟩) (sortd (L.take k)).length c ∧ Hid (IntsZ wr w.heap.size wr.heap.size (.slice (some ⟨b, off, none⟩) (sortd (L.take k)).length c) (upL (sortd (L.take k)))) ∧ w.heap.size ≤ b ∧ b < wr.heap.size ∧ Hid (Below w.heap.size w wr)) (fun _ i _ => L.length - (intOf i).toNat)
  case atStart => exact ⟨0, w.heap.size, 0, 0, Nat.zero_le _, rfl, rfl, Lib.hid ((ints_empty w).wide (Nat.le_refl _) (by simp)), Nat.le_refl _, by simp, Lib.hid ((Below.refl _ _).alloc (Nat.le_refl _) _)⟩
  case round =>
    obtain ⟨k, b, off, cq, hk, rfl, rfl, hq, hb1, hb2, hb⟩ := hrel
    by_cases hlt : k < L.length
    · obtain ⟨x, hx⟩ := lt_get hlt
      obtain ⟨ao', c', e', _, hn⟩ := HV.out.below hb.out hh
      obtain ⟨bb, oo, rfl, _, _, hc⟩ := hn k (x : Int) (by unfold upL; rw [List.getElem?_map, hx]; rfl)
      injection e' with e1 e2 e3
      obtain rfl := e1
      clear hn e2 e3
      have hsl := sortd_len (L.take k)
      have C := Lib.hid (l1Put_calls b off cq (sortd (L.take k)) x wr w.heap.size wr.heap.size (Nat.le_refl _) hq.out hb1 hb2 (by rw [List.length_take] at hsl; omega) (HX.out x (List.mem_of_getElem? hx)))
      have HS : Hid (putN (sortd (L.take k)) x = sortd (L.take (k + 1))) := Lib.hid (by rw [List.take_add_one, hx, ← foldput_snoc]; rfl)
      have hbz := hb.out.size
      clear hq hx hsl
      generalize sortd (L.take k) = q at C HS
      have b0 : (0 : Int) ≤ k := by omega
      have b1 : (k : Int) < L.length := by omega
      go_wp2_with fail
      refine C.out.mono ?_
      rintro e w4 ⟨b', off', c', rfl, hi4, h1, h2, hb4⟩
      rw [HS.out] at hi4
      have HI := Lib.hid hi4
      have HB4 : Hid (Below w.heap.size w w4) := Lib.hid (hb.out.trans (hb4.mono hbz))
      clear hi4 hb4 C
      rw [HS.out]
      clear HS
      go_wp2_with fail
      go_roundw
      case rel => exact ⟨k + 1, b', off', c', by omega, by go_num, rfl, HI, h1, h2, HB4⟩
      case measure => simp [intOf]; omega
    · have hke : L.take k = L := List.take_of_length_le (by omega)
      rw [hke] at hq
      have HKE := Lib.hid hke
      clear hke
      go_wp2
      go_ret
      exact ⟨b, off, cq, by rw [HKE.out]; rfl, hq.out, hb1, hb2, hb.out⟩
/-- the first of the places told -/
def atV (A L : List Nat) (k : Nat) : List Value := ((L.take k).map (fun x => A.getD x 0)).map iv
theorem atV_succ (A L : List Nat) (k x ya : Nat) (hx : L[k]? = some x) (hya : A[x]? = some ya) : atV A L (k + 1) = atV A L k ++ [.int .i64 (ya : Int)] := by
  have hg : A.getD x 0 = ya := by rw [List.getD_eq_getElem?_getD, hya]; rfl
  unfold atV
  rw [List.take_add_one, hx, List.map_append, List.map_append]
  simp only [Option.toList_some, List.map_cons, List.map_nil, hg]
  rfl
theorem atV_all (A L : List Nat) : atV A L L.length = (upL (L.map (fun x => A.getD x 0))).map (Value.int .i64) := by
  unfold atV upL iv
  rw [List.take_length]
  simp [List.map_map, Function.comp_def]
theorem atV_zero (A L : List Nat) : atV A L 0 = [] := by simp [atV]
set_option maxHeartbeats 2000000 in
theorem l3At_calls (va v : Value) (A L : List Nat) (w : World) (lo hi lo' hi' : Nat) (hh : hi ≤ w.heap.size) (hh' : hi' ≤ w.heap.size) (ha : IntsZ w lo hi va (upL A)) (hv : IntsZ w lo' hi' v (upL L)) (hl : L.length ≤ 1000000) (hx : ∀ x ∈ L, x < A.length) :
    Calls Try.prog 97 #[va, v] w fun e w' => ∃ b c, e = .returned (.slice (some ⟨b, 0, none⟩) L.length c) ∧ IntsZ w' w.heap.size w'.heap.size (.slice (some ⟨b, 0, none⟩) L.length c) (upL (L.map (fun x => A.getD x 0))) ∧ w.heap.size ≤ b ∧ b < w'.heap.size ∧ Below w.heap.size w w' := by
  obtain ⟨i0, hi0, hz0, hz1, hz2⟩ := info_parts infoIntA
  have HA := Lib.hid ha
  have HV := Lib.hid hv
  have HX := Lib.hid hx
  have hLL : (upL L).length = L.length := by unfold upL; simp
  have hLA : (upL A).length = A.length := by unfold upL; simp
  obtain ⟨aa, ca, rfl, hca, _⟩ := ha
  obtain ⟨ao, c, rfl, _, _⟩ := hv
  rw [hLA] at HA hca
  rw [hLA, hLL]
  rw [hLL] at HV
  clear hLL hLA hx
  have HO0 : Hid ((w.alloc (.cells #[] 3)).ownsRow w.heap.size 3 1 (.slice (some ⟨w.heap.size, 0, none⟩) 0 0) 0 []) := Lib.hid (World.ownsRow_lit w #[] 0 (Nat.le_refl _) (by unfold maxLen; omega) rfl)
  go_enter Try.func97, Try.ntmps97
  go_wp2
  go_loopw [5, 6] (fun q i wr => ∃ k : Nat, k ≤ L.length ∧ i = .int .i64 k ∧ (∃ b c, q = .slice (some ⟨b, 0, none⟩) k c) ∧ Hid (wr.ownsRow w.heap.size 3 1 q k (atV A L k)) ∧ Hid (Below w.heap.size w wr)) (fun _ i _ => L.length - (intOf i).toNat)
  case atStart => exact ⟨0, Nat.zero_le _, rfl, ⟨_, _, rfl⟩, Lib.hid (by rw [atV_zero]; exact HO0.out), Lib.hid ((Below.refl _ _).alloc (Nat.le_refl _) _)⟩
  case round =>
    obtain ⟨k, hk, rfl, ⟨b, cq, rfl⟩, hown, hb⟩ := hrel
    by_cases hlt : k < L.length
    · obtain ⟨x, hx⟩ := lt_get hlt
      have hxa := HX.out x (List.mem_of_getElem? hx)
      obtain ⟨ao', c', e', _, hn⟩ := HV.out.below hb.out hh'
      obtain ⟨bb, oo, rfl, _, _, hc⟩ := hn k (x : Int) (by unfold upL; rw [List.getElem?_map, hx]; rfl)
      injection e' with e1 e2 e3
      obtain rfl := e1
      clear hn e2 e3
      obtain ⟨ya, hya⟩ := lt_get hxa
      obtain ⟨aa', ca', e', _, hn⟩ := HA.out.below hb.out hh
      obtain ⟨ba, oa, rfl, _, _, hc2⟩ := hn x (ya : Int) (by unfold upL; rw [List.getElem?_map, hya]; rfl)
      injection e' with e1 e2 e3
      obtain rfl := e1
      clear hn e2 e3
      have HM : Hid (atV A L (k + 1) = atV A L k ++ [.int .i64 (ya : Int)]) := Lib.hid (atV_succ A L k x ya hx hya)
      have hbz := hb.out.size
      clear hx hya
      have b0 : (0 : Int) ≤ k := by omega
      have b1 : (k : Int) < L.length := by omega
      have x0 : (0 : Int) ≤ x := by omega
      have x1 : (x : Int) < A.length := by omega
      go_wp2_with (at_builtin; refine wpList_append_own _ rfl _ _ 34 rfl w.heap.size 3 i0 (.int .i64 0) 1 8 Try.underlying34 hi0 hz0 hz1 hz2 rfl (by decide) _ _ _ rfl (hown.out.alloc _) ⟨wr.heap.size, 0, none⟩ 1 1 [.int .i64 (ya : Int)] rfl rfl ?d1 ?d2 ?d3 ?d4 ?d5 ?_)
      case d1 =>
        intro j u hj
        match j, hj with
        | 0, hj => simp at hj; subst hj; simp [Addr.add]
      case d2 => intro u hu; simp at hu; subst hu; rfl
      case d3 => unfold maxLen; omega
      case d4 => omega
      case d5 => simp; omega
      intro v2 w2 hown2 hgrow2 hnil
      obtain ⟨g2, c2, rfl, _, _⟩ := hown2.form (by omega)
      have R1 : Hid (w2.ownsRow w.heap.size 3 1 (.slice (some ⟨g2, 0, none⟩) (k + 1) c2) (k + 1) (atV A L (k + 1))) := Lib.hid (by rw [HM.out]; exact hown2)
      have R2 : Hid (Below w.heap.size w w2) := Lib.hid ((hb.out.alloc hbz _).grown hgrow2 (by simp; omega) (fun q hq => (World.ownsRow.lt hown.out q hq).1))
      clear hown2 hgrow2 hnil hown HM hc hc2
      go_wp2
      go_roundw
      case rel => exact ⟨k + 1, by omega, by go_num, ⟨_, _, rfl⟩, R1, R2⟩
      case measure => simp [intOf]; omega
    · have hke : k = L.length := by omega
      subst hke
      rw [atV_all] at hown
      have hlt := World.ownsRow.lt hown.out _ rfl
      have HI : Hid (IntsZ wr w.heap.size wr.heap.size (.slice (some ⟨b, 0, none⟩) L.length cq) (upL (L.map (fun x => A.getD x 0)))) := Lib.hid (by
        have h1 := hown.out
        have hlen : (upL (L.map (fun x => A.getD x 0))).length = L.length := by unfold upL; simp
        rw [← hlen] at h1
        rw [← hlen]
        exact (ints_own h1 (by omega) hlt.2).wide hlt.1 hlt.2)
      have HL1 := hlt.1
      have HL2 := hlt.2
      clear hown hlt
      go_wp2
      go_ret
      exact ⟨b, cq, rfl, HI.out, HL1, HL2, hb.out⟩

end Go.Proofs.Ytabfdaofikccmaa
