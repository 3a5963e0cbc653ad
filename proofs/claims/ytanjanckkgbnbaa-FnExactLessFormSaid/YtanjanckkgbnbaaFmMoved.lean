/- What is sorted, and each once: the program's way is the model's. -/
import Derived.Test.YtanjanckkgbnbaaFmGood
import Derived.Lib.SlicesCompact
import Derived.Test.YtanjanckkgbnbaaShelf
import Derived.Test.YtanjanckkgbnbaaFmMark
import Derived.Test.YtanjanckkgbnbaaFmPartL
import Derived.Sort.OwnSortedInts
namespace Go.Proofs.Ytanjanckkgbnbaa
section
set_option linter.unusedVariables false
set_option linter.unusedSimpArgs false

theorem asc_extZ : ∀ (a b : List Int), a.Pairwise (· < ·) → b.Pairwise (· < ·) → (∀ x, x ∈ a ↔ x ∈ b) → a = b
  | [], [], _, _, _ => rfl
  | [], y :: b, _, _, h => by have := (h y).2 (by simp); simp at this
  | x :: a, [], _, _, h => by have := (h x).1 (by simp); simp at this
  | x :: a, y :: b, ha, hb, h => by
    rw [List.pairwise_cons] at ha hb
    have hxy : x = y := by
      have h1 := (h x).1 (by simp)
      have h2 := (h y).2 (by simp)
      rcases List.mem_cons.1 h1 with h1 | h1
      · exact h1
      · rcases List.mem_cons.1 h2 with h2 | h2
        · exact h2.symm
        · have := hb.1 x h1
          have := ha.1 y h2
          omega
    subst hxy
    rw [asc_extZ a b ha.2 hb.2 (fun z => by
      constructor
      · intro hz
        have h1 := (h z).1 (List.mem_cons_of_mem _ hz)
        rcases List.mem_cons.1 h1 with rfl | h1
        · have := ha.1 z hz; omega
        · exact h1
      · intro hz
        have h1 := (h z).2 (List.mem_cons_of_mem _ hz)
        rcases List.mem_cons.1 h1 with rfl | h1
        · have := hb.1 z hz; omega
        · exact h1)]

theorem get_bang (zs : List Int) (j : Nat) (h : j < zs.length) : zs.toArray[j]! = zs[j] := by simp [getElem!_pos, h]

theorem compact_upto (zs : List Int) (hs : zs.Pairwise (· ≤ ·)) : ∀ m, m ≤ zs.length → (Lib.compactUpTo zs.toArray m).Pairwise (· < ·) ∧ (∀ x, x ∈ Lib.compactUpTo zs.toArray m ↔ x ∈ zs.take m)
  | 0, _ => ⟨by simp [Lib.compactUpTo], fun x => by simp [Lib.compactUpTo]⟩
  | m + 1, hm => by
    obtain ⟨h1, h2⟩ := compact_upto zs hs m (by omega)
    have hml : m < zs.length := by omega
    have e1 := get_bang zs m hml
    have ht : zs.take (m + 1) = zs.take m ++ [zs[m]] := List.take_succ_eq_append_getElem hml
    have hle : ∀ x ∈ zs.take m, x ≤ zs[m] := fun x hx => by
      have h3 := hs
      rw [← List.take_append_drop m zs] at h3
      have h4 := (List.pairwise_append.1 h3).2.2 x hx zs[m] (by rw [List.drop_eq_getElem_cons hml]; exact List.mem_cons_self)
      exact h4
    rw [Lib.compactUpTo_succ, e1, ht]
    cases hk : Lib.keeps zs.toArray m with
    | true =>
      simp only [if_true]
      refine ⟨?_, fun x => by rw [List.mem_append, List.mem_append, h2 x]⟩
      rw [List.pairwise_append]
      refine ⟨h1, List.pairwise_singleton _ _, fun a ha b hb => ?_⟩
      simp only [List.mem_singleton] at hb
      subst hb
      have ha2 := (h2 a).1 ha
      rcases Nat.eq_zero_or_pos m with h0 | h0
      · subst h0; simp at ha2
      · unfold Lib.keeps at hk
        rw [decide_eq_true_iff] at hk
        rcases hk with hk | hk
        · omega
        · have e2 := get_bang zs (m - 1) (by omega)
          rw [e1, e2] at hk
          have hlast : a ≤ zs[m - 1] := by
            have ht2 : zs.take m = zs.take (m - 1) ++ [zs[m - 1]] := by
              have := List.take_succ_eq_append_getElem (l := zs) (i := m - 1) (by omega)
              rwa [show m - 1 + 1 = m from by omega] at this
            rw [ht2] at ha2
            rcases List.mem_append.1 ha2 with ha2 | ha2
            · have h3 := hs
              rw [← List.take_append_drop (m - 1) zs] at h3
              exact (List.pairwise_append.1 h3).2.2 a ha2 zs[m - 1] (by rw [List.drop_eq_getElem_cons (by omega)]; exact List.mem_cons_self)
            · simp only [List.mem_singleton] at ha2
              omega
          have hmm := hle zs[m - 1] (by
            have ht2 : zs.take m = zs.take (m - 1) ++ [zs[m - 1]] := by
              have := List.take_succ_eq_append_getElem (l := zs) (i := m - 1) (by omega)
              rwa [show m - 1 + 1 = m from by omega] at this
            rw [ht2]
            exact List.mem_append.2 (Or.inr (List.mem_singleton.2 rfl)))
          omega
    | false =>
      simp only [Bool.false_eq_true, if_false, List.append_nil]
      refine ⟨h1, fun x => ?_⟩
      rw [h2 x, List.mem_append, List.mem_singleton]
      constructor
      · exact Or.inl
      · rintro (h3 | h3)
        · exact h3
        · have h0 : 0 < m := by
            rcases Nat.eq_zero_or_pos m with h0 | h0
            · subst h0
              unfold Lib.keeps at hk
              simp at hk
            · exact h0
          unfold Lib.keeps at hk
          rw [decide_eq_false_iff_not] at hk
          have e2 := get_bang zs (m - 1) (by omega)
          have h4 : zs[m] = zs[m - 1] := by
            refine Classical.byContradiction fun hne => hk (Or.inr ?_)
            rw [e1, e2]
            exact hne
          rw [h3, h4]
          have ht2 : zs.take m = zs.take (m - 1) ++ [zs[m - 1]] := by
            have := List.take_succ_eq_append_getElem (l := zs) (i := m - 1) (by omega)
            rwa [show m - 1 + 1 = m from by omega] at this
          rw [ht2]
          exact List.mem_append.2 (Or.inr (List.mem_singleton.2 rfl))

theorem compact_asc (zs : List Int) (hs : zs.Pairwise (· ≤ ·)) : (Lib.compact zs).Pairwise (· < ·) ∧ ∀ x, x ∈ Lib.compact zs ↔ x ∈ zs := by
  have h := compact_upto zs hs zs.length (Nat.le_refl _)
  rw [List.take_length] at h
  exact h

theorem sort_compact (L : List Nat) : Lib.compact ((upL L).mergeSort fun x y => decide (x ≤ y)) = upL (sortd L) := by
  have hp := List.mergeSort_perm (upL L) (fun x y => decide (x ≤ y))
  have hs : ((upL L).mergeSort fun x y => decide (x ≤ y)).Pairwise (· ≤ ·) := by
    have h := List.pairwise_mergeSort (le := fun x y : Int => decide (x ≤ y)) (fun a b c h1 h2 => by simp at h1 h2 ⊢; omega) (fun a b => by simp; omega) (upL L)
    exact h.imp (fun hab => by simpa using hab)
  obtain ⟨h1, h2⟩ := compact_asc _ hs
  refine asc_extZ _ _ h1 ?_ (fun x => ?_)
  · unfold upL
    rw [List.pairwise_map]
    exact (sortd_asc L).imp (fun h => by omega)
  · rw [h2 x, hp.mem_iff]
    unfold upL
    simp only [List.mem_map, mem_sortd]
end

section
open Go.RowKit Go.Sort
set_option linter.unusedVariables false
set_option linter.unusedSimpArgs false

theorem upL_lenM (l : List Nat) : (upL l).length = l.length := by unfold upL; simp

/-- options whose places are told so far -/
def movL (L Q : List Nat) (k : Nat) : List Int := upL ((L.take k).map (fun x => Q.getD x 0)) ++ List.replicate (L.length - k) 0

theorem movL_zero (L Q : List Nat) : movL L Q 0 = List.replicate L.length 0 := by simp [movL, upL]
theorem movL_all (L Q : List Nat) : movL L Q L.length = upL (L.map (fun x => Q.getD x 0)) := by simp [movL]
theorem movL_len (L Q : List Nat) (k : Nat) (h : k ≤ L.length) : (movL L Q k).length = L.length := by simp [movL, upL]; omega
theorem movL_set (L Q : List Nat) (k x : Nat) (h : L[k]? = some x) : (movL L Q k).set k ((Q.getD x 0 : Nat) : Int) = movL L Q (k + 1) := by
  have hk := get_lt h
  unfold movL
  have e1 : (upL ((L.take k).map (fun x => Q.getD x 0))).length = k := by simp [upL]; omega
  rw [List.set_append_right _ _ (by rw [e1]; exact Nat.le_refl _), e1, Nat.sub_self, show L.length - k = (L.length - (k + 1)) + 1 from by omega, List.replicate_succ, List.set_cons_zero, List.take_add_one, h, List.map_append]
  unfold upL
  rw [List.map_append, List.append_assoc]
  rfl

/-- a row's cells, for the library -/
theorem OwnI.cur {w : World} {base g n c : Nat} {l : List Int} (h : OwnI w base (.slice (some ⟨g, 0, none⟩) n c) l) : ∃ cur : Array Value, w.heap[g]? = some (.cells cur 3 (0, 0)) ∧ l.length ≤ c ∧ c ≤ maxLen ∧ cur.size = c * 1 ∧ cur.toList.take l.length = l.map (Value.int .i64) ∧ base ≤ g ∧ n = l.length := by
  have hl := h.1
  rcases h.2 with ⟨h1, _⟩ | ⟨g', c', cur, hv, hb, hh, h1, h2, h3, h4⟩
  · cases h1
  · injection hv with e1 e2 e3
    injection e1 with e1
    injection e1 with e1 _ _
    subst e1 e2 e3
    exact ⟨cur, hh, h1, h2, h3, by rw [Nat.mul_one] at h4; exact h4, hb, rfl⟩

theorem sort_own {w : World} {base g c : Nat} {l : List Int} (h : OwnI w base (.slice (some ⟨g, 0, none⟩) l.length c) l) (hl : l.length ≤ 1000) :
    Calls Try.prog 94 #[.slice (some ⟨g, 0, none⟩) l.length c] w fun e w' => e = .returned (.tuple #[]) ∧ OwnI w' base (.slice (some ⟨g, 0, none⟩) l.length c) (l.mergeSort fun x y => decide (x ≤ y)) ∧ w.grownBy w' (some g) := by
  obtain ⟨cur, hb, h1, h2, h3, ht, hbase, _⟩ := h.cur
  refine (Try.slices_Sort_int g 0 c l w (holds_of_blockI hb ht) (h.lt g rfl).2 (by omega)).mono ?_
  rintro e w' ⟨rfl, n, os, rfl⟩
  have hlen : (l.mergeSort fun x y => decide (x ≤ y)).length = l.length := List.length_mergeSort _
  refine ⟨rfl, ?_, grownBy_sortedI _⟩
  unfold OwnI
  rw [hlen]
  exact ownsRow_sortedI hlen hbase hb h1 h2 h3

theorem grow_nil (w : World) : grow w #[] = w := by simp [grow]

theorem compact_own {w : World} {base g c : Nat} {l : List Int} (h : OwnI w base (.slice (some ⟨g, 0, none⟩) l.length c) l) (hl : l.length ≤ 1000) :
    Calls Try.prog 104 #[.slice (some ⟨g, 0, none⟩) l.length c] w fun e w' => e = .returned (.slice (some ⟨g, 0, none⟩) (Lib.compact l).length c) ∧ OwnI w' base (.slice (some ⟨g, 0, none⟩) (Lib.compact l).length c) (Lib.compact l) ∧ w.grownBy w' (some g) := by
  obtain ⟨cur, hb, h1, h2, h3, ht, hbase, _⟩ := h.cur
  have hcl := Lib.compact_length_le l
  refine (Try.slices_Compact_int g 0 c l w (holds_of_blockI hb ht) (by omega) h1).mono ?_
  rintro e w' ⟨rfl, q, rfl⟩
  have hg := grownBy_sortedI (w := w) (g := g) (n := q) (os := #[]) (Lib.compact l ++ List.replicate (l.length - (Lib.compact l).length) 0).toArray
  have hh := heap_sortedI (n := q) (os := #[]) (Lib.compact l ++ List.replicate (l.length - (Lib.compact l).length) 0).toArray hb
  rw [grow_nil] at hg hh
  have htl : (Lib.compact l ++ List.replicate (l.length - (Lib.compact l).length) (0 : Int)).length = l.length := by simp; omega
  have ht2 := take_putCellsI cur (Lib.compact l ++ List.replicate (l.length - (Lib.compact l).length) 0) (by rw [htl]; omega)
  rw [htl] at ht2
  refine ⟨rfl, ⟨by simp, Or.inr ⟨g, c, _, rfl, hbase, hh, by omega, h2, by simp [putCells, h3], ?_⟩⟩, hg⟩
  rw [Nat.mul_one]
  have e : ((putCells (Value.int .i64) 0 (Lib.compact l ++ List.replicate (l.length - (Lib.compact l).length) 0).toArray cur).toList.take l.length).take (Lib.compact l).length = (putCells (Value.int .i64) 0 (Lib.compact l ++ List.replicate (l.length - (Lib.compact l).length) 0).toArray cur).toList.take (Lib.compact l).length := by
    rw [List.take_take, Nat.min_eq_left hcl]
  rw [← e, ht2, ← List.map_take, List.take_left']
  rfl

set_option maxHeartbeats 1000000 in
theorem movedI_calls (vo vp : Value) (L Q : List Nat) (w : World) (lo hi lo' hi' : Nat) (hh : hi ≤ w.heap.size) (hh' : hi' ≤ w.heap.size) (hv : IntsZ w lo hi vo (upL L)) (hp : IntsZ w lo' hi' vp (upL Q)) (hL : ∀ x ∈ L, x < Q.length) (hl : L.length ≤ 1000) (hQ : Q.length ≤ 1000000) :
    Calls Try.prog 75 #[vo, vp] w fun e w' => ∃ g c, e = .returned (.slice (some ⟨g, 0, none⟩) (sortd (L.map (fun x => Q.getD x 0))).length c) ∧ OwnI w' w.heap.size (.slice (some ⟨g, 0, none⟩) (sortd (L.map (fun x => Q.getD x 0))).length c) (upL (sortd (L.map (fun x => Q.getD x 0)))) ∧ Below w.heap.size w w' := by
  obtain ⟨i0, hi0, hz0, hz1, hz2⟩ := info_parts infoIntA
  obtain ⟨ao, co, rfl, hco⟩ := ints_lenP hv
  obtain ⟨ap, cp, rfl, hcp⟩ := ints_lenP hp
  have HV := Lib.hid hv
  have HP := Lib.hid hp
  have HL := Lib.hid hL
  clear hv hp hL
  go_enter Try.func75, Try.ntmps75
  go_wp2_with (at_make; refine wpList_make_full _ rfl _ _ 41 rfl w.heap.size 3 i0 (.int .i64 0) 1 Try.underlying41 hi0 hz0 hz1 _ _ _ _ L.length rfl rfl rfl rfl (by rw [hz2]; omega) (by unfold maxLen; omega) (Nat.le_refl _) ?_; intro w1 hown hg)
  have HO : Hid (OwnI w1 w.heap.size (.slice (some ⟨w.heap.size, 0, none⟩) L.length L.length) (movL L Q 0)) := Lib.hid (by
    have e : (madeCells (Value.int .i64 0).cells (L.length * 1)).toList = (movL L Q 0).map (Value.int .i64) := by
      show (madeCells #[Value.int .i64 0] (L.length * 1)).toList = _
      rw [Nat.mul_one, made_one, movL_zero]
      simp
    unfold OwnI
    rw [movL_len L Q 0 (Nat.zero_le _), ← e]
    exact hown)
  have HB : Hid (Below w.heap.size w w1) := Lib.hid ((Below.refl _ _).grown hg (Nat.le_refl _) (fun k hk => by cases hk))
  clear hown hg
  go_wp2
  go_loopw [13] (fun i wr => ∃ k : Nat, k ≤ L.length ∧ i = .int .i64 k ∧ Hid (OwnI wr w.heap.size (.slice (some ⟨w.heap.size, 0, none⟩) L.length L.length) (movL L Q k)) ∧ Hid (RowKit.Below w.heap.size w wr)) (fun i _ => L.length - (intOf i).toNat)
  case atStart => exact ⟨0, Nat.zero_le _, rfl, HO, HB⟩
  case round =>
    obtain ⟨k, hk, rfl, ho, hb⟩ := hrel
    clear HO HB
    by_cases hlt : k < L.length
    · obtain ⟨x, hx⟩ := lt_get hlt
      have hxq := HL.out x (List.mem_of_getElem? hx)
      obtain ⟨y, hy⟩ := lt_get hxq
      obtain ⟨b1, o1, rfl, _, q1⟩ := ints_atP (HV.out.below hb.out hh) hx
      obtain ⟨b2, o2, rfl, _, q2⟩ := ints_atP (HP.out.below hb.out hh') hy
      obtain ⟨u, hu⟩ := lt_get (l := movL L Q k) (i := k) (by rw [movL_len L Q k hk]; exact hlt)
      obtain ⟨c0, f0⟩ := ho.out.at_ hu
      have P := ho.out.put (x := k) (v := (y : Int))
      have hst := movL_set L Q k x hx
      rw [show Q.getD x 0 = y from by rw [List.getD_eq_getElem?_getD, hy]; rfl] at hst
      rw [hst] at P
      have R1 := Lib.hid P.1
      have R2 : Hid (RowKit.Below w.heap.size w (wr.setCell ⟨w.heap.size, k, none⟩ (.int .i64 (y : Int)))) := Lib.hid (hb.out.setCell (Nat.le_refl _) _)
      have k0 : (0 : Int) ≤ k := by omega
      have k1 : (k : Int) < L.length := by omega
      have x0 : (0 : Int) ≤ x := by omega
      have x1 : (x : Int) < Q.length := by omega
      clear P hst ho hb hx hy hu
      go_wp2
      go_roundw
      case rel => exact ⟨k + 1, by omega, by go_num, R1, R2⟩
      case measure => first | (simp [intOf]; done) | (simp [intOf]; omega)
    · have hke : k = L.length := by omega
      subst hke
      have hml := movL_len L Q L.length (Nat.le_refl _)
      have H1 : Hid (OwnI wr w.heap.size (.slice (some ⟨w.heap.size, 0, none⟩) (upL (L.map (fun x => Q.getD x 0))).length L.length) (upL (L.map (fun x => Q.getD x 0)))) := Lib.hid (by
        have h := ho.out
        rw [movL_all] at h
        have e : (upL (L.map (fun x => Q.getD x 0))).length = L.length := by simp [upL]
        rw [e]
        exact h)
      have hul : (upL (L.map (fun x => Q.getD x 0))).length = L.length := by simp [upL]
      have C1 := Lib.hid (sort_own H1.out (by omega))
      rw [hul] at C1
      have HSC := Lib.hid (sort_compact (L.map (fun x => Q.getD x 0)))
      have hsl : ((upL (L.map (fun x => Q.getD x 0))).mergeSort fun x y => decide (x ≤ y)).length = L.length := by rw [List.length_mergeSort, hul]
      generalize (upL (L.map (fun x => Q.getD x 0))).mergeSort (fun x y => decide (x ≤ y)) = zs at C1 HSC hsl
      obtain ⟨SL, hSL⟩ : ∃ SL, sortd (L.map (fun x => Q.getD x 0)) = SL := ⟨_, rfl⟩
      rw [hSL] at HSC
      have HSL := Lib.hid hSL
      clear ho H1 hml hul hSL
      go_wp2_with fail
      refine C1.out.mono ?_
      rintro e w2 ⟨rfl, ho2, hg2⟩
      have B2 := Lib.hid (hb.out.grown hg2 hb.out.size (fun q hq => by injection hq with hq; omega))
      have C2 := Lib.hid (compact_own (l := zs) (by rw [hsl]; exact ho2) (by omega))
      rw [hsl, HSC.out] at C2
      clear ho2 hg2 hb C1
      go_wp2_with fail
      refine C2.out.mono ?_
      rintro e w3 ⟨rfl, ho3, hg3⟩
      have B3 := Lib.hid (B2.out.grown hg3 B2.out.size (fun q hq => by injection hq with hq; omega))
      rw [upL_lenM] at ho3
      rw [upL_lenM]
      have O3 := Lib.hid ho3
      clear ho3 hg3 C2
      go_wp2_with fail
      go_ret
      rw [HSL.out]
      exact ⟨_, _, rfl, O3.out, B3.out⟩
end

end Go.Proofs.Ytanjanckkgbnbaa
