/- laws.toForm: the copy lies in memory of its own. -/
import Derived.Test.YtabfdaofikccmaaGreatFmOwn
import Derived.Test.YtabfdaofikccmaaGreatFmBkPut
namespace Go.Proofs.YtabfdaofikccmaaGreat
set_option linter.unusedVariables false
set_option linter.unusedSimpArgs false
open Go.RowKit

theorem OwnI.setCell {w : World} {base : Nat} {v : Value} {l : List Int} {p : Addr} {u : Value} (h : OwnI w base v l) (hne : v.ownBlock ≠ some p.block) : OwnI (w.setCell p u) base v l :=
  h.only (Only.of_set (F := fun b => b = p.block) u rfl) (fun g e1 e2 => hne (e2 ▸ e1))

theorem own_ne {g n c b : Nat} (h : g ≠ b) : (Value.slice (some ⟨g, 0, none⟩) n c).ownBlock ≠ some b := fun e => by
  have h2 : g = b := by injection e
  exact h h2

set_option maxHeartbeats 1000000 in
theorem toNode_own (v1 v2 : Value) (nd : Nz) (w : World) (lo hi : Nat) (hh : hi ≤ w.heap.size) (h1 : IntsZ w lo hi v1 nd.1) (h2 : IntsZ w lo hi v2 nd.2) (hl : szN nd ≤ 1048576) :
    Calls Tryz.prog 164 #[.agg #[v1, v2]] w fun e w' => ∃ g1 n1 c1 g2 n2 c2, e = .returned (.agg #[.slice (some ⟨g1, 0, none⟩) n1 c1, .slice (some ⟨g2, 0, none⟩) n2 c2]) ∧ g1 ≠ g2 ∧
      OwnI w' w.heap.size (.slice (some ⟨g1, 0, none⟩) n1 c1) nd.1 ∧ OwnI w' w.heap.size (.slice (some ⟨g2, 0, none⟩) n2 c2) nd.2 ∧ Below w.heap.size w w' := by
  unfold szN at hl
  have C1 := Lib.hid fun (W : World) (hW : Below w.heap.size w W) => toIntS_own v1 nd.1 W lo hi (by have := hW.size; omega) (h1.below hW hh) (by omega)
  have C2 := Lib.hid fun (W : World) (hW : Below w.heap.size w W) => toIntS_own v2 nd.2 W lo hi (by have := hW.size; omega) (h2.below hW hh) (by omega)
  have HB0 := Lib.hid fun o o' o'' => show Below w.heap.size w (((w.alloc o).alloc o').alloc o'') from (((Below.refl _ _).alloc (Nat.le_refl _) _).alloc (by simp) _).alloc (by first | (simp; done) | (simp; omega)) _
  clear h1 h2
  go_enter Tryz.func164, Tryz.ntmps164
  go_wp2_with fail
  refine (C1.out _ (HB0.out _ _ _)).mono ?_
  rintro e w4 ⟨g1, c1, rfl, hg1, hg1', ho1, hb⟩
  obtain ⟨hc4, hf4⟩ := bcell2 hb
  have hz4 := hb.size
  (try simp at hz4)
  (try simp at hg1)
  have hy0 : w.heap.size < w4.heap.size := by omega
  have hy1 : w.heap.size + 1 < w4.heap.size := by omega
  have hy2 : w.heap.size + 2 < w4.heap.size := by omega
  have HI1 : Hid (OwnI w4 w.heap.size (.slice (some ⟨g1, 0, none⟩) nd.1.length c1) nd.1) := Lib.hid (OwnI.mono ho1 (by first | (simp; done) | (simp; omega)))
  have HB4 := Lib.hid (Below.trans (HB0.out _ _ _) (hb.mono (by first | (simp; done) | (simp; omega))))
  clear hb ho1
  go_wp2_with fail
  refine (C2.out _ (HB4.out.setCell (by first | (simp; done) | (simp; omega)) _)).mono ?_
  rintro e w5 ⟨g2, c2, rfl, hg2, hg2', ho2, hb⟩
  obtain ⟨hc5, hf5⟩ := bcell2 hb
  have hz5 := hb.size
  (try simp at hz5)
  (try simp at hg2)
  have HI1 := Lib.hid ((HI1.out.setCell (p := ⟨w.heap.size + 1 + 1, 0, none⟩) (u := .slice (some ⟨g1, 0, none⟩) nd.1.length c1) (own_ne (by show g1 ≠ w.heap.size + 1 + 1; omega))).below (hb.mono (by simp)))
  have HI2 : Hid (OwnI w5 w.heap.size (.slice (some ⟨g2, 0, none⟩) nd.2.length c2) nd.2) := Lib.hid (OwnI.mono ho2 (by first | (simp; done) | (simp; omega)))
  have HB5 := Lib.hid (Below.trans (HB4.out.setCell (p := ⟨w.heap.size + 1 + 1, 0, none⟩) (by first | (simp; done) | (simp; omega)) (.slice (some ⟨g1, 0, none⟩) nd.1.length c1)) (hb.mono (by first | (simp; done) | (simp; omega))))
  clear hb ho2
  have hyy0 : w.heap.size < w5.heap.size := by omega
  have hyy1 : w.heap.size + 1 < w5.heap.size := by omega
  have hyy2 : w.heap.size + 2 < w5.heap.size := by omega
  go_wp2_with fail
  refine bodyPost_ret (v := .agg #[.slice (some ⟨g1, 0, none⟩) nd.1.length c1, .slice (some ⟨g2, 0, none⟩) nd.2.length c2]) (by simp [*, results, Tryz.results164, go_sem]) rfl ?_
  refine ⟨_, _, _, _, _, _, rfl, by omega, ?_, ?_, ?_⟩
  · exact ((HI1.out.setCell (own_ne (by show g1 ≠ w.heap.size + 1 + 1; omega))).setCell (own_ne (by show g1 ≠ w.heap.size + 1; omega))).setCell (own_ne (by show g1 ≠ w.heap.size + 1; omega))
  · exact ((HI2.out.setCell (own_ne (by show g2 ≠ w.heap.size + 1 + 1; omega))).setCell (own_ne (by show g2 ≠ w.heap.size + 1; omega))).setCell (own_ne (by show g2 ≠ w.heap.size + 1; omega))
  · exact ((HB5.out.setCell (by show w.heap.size ≤ w.heap.size + 1 + 1; omega) _).setCell (by show w.heap.size ≤ w.heap.size + 1; omega) _).setCell (by show w.heap.size ≤ w.heap.size + 1; omega) _

/-- nodes that have been copied, and empty ones -/
def partZ (f : List Nz) (k : Nat) : List Nz := f.take k ++ List.replicate (f.length - k) ([], [])
theorem partZ_len (f : List Nz) (k : Nat) (h : k ≤ f.length) : (partZ f k).length = f.length := by unfold partZ; simp; omega
theorem partZ_set (f : List Nz) (k : Nat) (nd : Nz) (h : f[k]? = some nd) : (partZ f k).set k nd = partZ f (k + 1) := by
  have hl := get_lt h
  have hk : (f.take k).length = k := by simp; omega
  unfold partZ
  rw [List.set_append_right _ _ (by omega), hk, Nat.sub_self, List.take_succ_eq_append_getElem hl, List.append_assoc]
  rw [List.getElem?_eq_getElem hl] at h
  injection h with h
  rw [h, show f.length - k = (f.length - (k + 1)) + 1 from by omega, List.replicate_succ, List.set_cons_zero]
  rfl
theorem partZ_all (f : List Nz) : partZ f f.length = f := by simp [partZ]
theorem partZ_zero (f : List Nz) : partZ f 0 = List.replicate f.length ([], []) := by simp [partZ]

/-- a row of nodes that was just made -/
theorem ownF_made {base g n : Nat} {w : World} (h : w.ownsRow base 67 2 (.slice (some ⟨g, 0, none⟩) n n) n (madeCells (Value.agg #[.slice none 0 0, .slice none 0 0]).cells (n * 2)).toList) :
    OwnF w base (.slice (some ⟨g, 0, none⟩) n n) (List.replicate n (.slice none 0 0, .slice none 0 0)) (List.replicate n ([], [])) := by
  have e : ∀ m : Nat, rowN2 (List.replicate m ((.slice none 0 0, .slice none 0 0) : Value × Value)) = List.replicate (m * 2) (.slice none 0 0) := fun m => by
    induction m with
    | zero => rfl
    | succ m ih =>
      rw [List.replicate_succ]
      show Value.slice none 0 0 :: Value.slice none 0 0 :: rowN2 (List.replicate m ((.slice none 0 0, .slice none 0 0) : Value × Value)) = _
      rw [ih, show (m + 1) * 2 = m * 2 + 1 + 1 from by omega, List.replicate_succ, List.replicate_succ]
  have e2 : (madeCells (Value.agg #[.slice none 0 0, .slice none 0 0]).cells (n * 2)).toList = List.replicate (n * 2) (.slice none 0 0) := by
    apply List.ext_getElem
    · simp [madeCells]
    · intro i h1 h2
      have : i % 2 = 0 ∨ i % 2 = 1 := by omega
      rcases this with h3 | h3 <;> simp [madeCells, Value.cells, h3]
  rw [e2, ← e n] at h
  refine ⟨by rw [List.length_replicate]; exact h, by simp, fun j nd p hj hp => ?_, fun j p hp => ?_, fun i j p q _ hp hq => ?_⟩
  · have h1 := List.eq_of_mem_replicate (List.mem_of_getElem? hj)
    have h2 := List.eq_of_mem_replicate (List.mem_of_getElem? hp)
    subst h1 h2
    exact ⟨OwnI.nil _ _, OwnI.nil _ _⟩
  · have h2 := List.eq_of_mem_replicate (List.mem_of_getElem? hp)
    subst h2
    exact ⟨Apart.nil _, (Apart.nil _).symm, (Apart.nil _).symm⟩
  · have h1 := List.eq_of_mem_replicate (List.mem_of_getElem? hp)
    have h2 := List.eq_of_mem_replicate (List.mem_of_getElem? hq)
    subst h1 h2
    exact ⟨Apart.nil _, Apart.nil _, Apart.nil _, Apart.nil _⟩

theorem OwnF.setCell {w : World} {base : Nat} {v : Value} {vs : List (Value × Value)} {f : List Nz} {p : Addr} {u : Value} (h : OwnF w base v vs f) (hp : p.block < base) : OwnF (w.setCell p u) base v vs f :=
  h.only (Only.of_set (F := fun b => b = p.block) u rfl) (fun g h1 _ e => by omega)
theorem OwnF.mono {w : World} {base base' : Nat} {v : Value} {vs : List (Value × Value)} {f : List Nz} (h : OwnF w base v vs f) (hb : base' ≤ base) : OwnF w base' v vs f :=
  ⟨World.ownsRow.mono h.nodes hb, h.len, fun j nd p h1 h2 => ⟨(h.list j nd p h1 h2).1.mono hb, (h.list j nd p h1 h2).2.mono hb⟩, h.two, h.sep⟩

theorem apart_fresh {w w' : World} {base B : Nat} {p q : Value} {l m : List Int} (hp : OwnI w' B p l) (hq : OwnI w base q m) (hB : w.heap.size ≤ B) : Apart p q := fun g h1 h2 => by
  have := (hp.lt g h1).1
  have := (hq.lt g h2).2
  omega

/-- the next node is put in -/
theorem OwnF.next {w w4 : World} {base k g c : Nat} {vs : List (Value × Value)} {f : List Nz} {nd : Nz} {p : Value × Value} (h : OwnF w base (.slice (some ⟨g, 0, none⟩) f.length c) vs (partZ f k)) (hk : f[k]? = some nd) (hb : Below w.heap.size w w4) (hbase : base ≤ w.heap.size)
    (h1 : OwnI w4 w.heap.size p.1 nd.1) (h2 : OwnI w4 w.heap.size p.2 nd.2) (ha : Apart p.1 p.2) :
    OwnF ((w4.setCell ⟨g, k * 2, none⟩ p.1).setCell ⟨g, k * 2 + 1, none⟩ p.2) base (.slice (some ⟨g, 0, none⟩) f.length c) (vs.set k p) (partZ f (k + 1)) := by
  have hl := get_lt hk
  have hp := partZ_len f k (by omega)
  have h4 := h.below hb
  rw [← hp] at h4
  have hg := (World.ownsRow.lt h.nodes g rfl).2
  have key := h4.put (j := k) (nd := nd) (p := p) (by omega) (h1.mono hbase) (h2.mono hbase) ha (fun e => by have := (h1.lt g e).1; omega) (fun e => by have := (h2.lt g e).1; omega) (fun i q hne hq => by
    have hi := get_lt hq
    rw [h.len] at hi
    obtain ⟨n0, hn0⟩ := lt_get hi
    have := h.list i n0 q hn0 hq
    exact ⟨⟨apart_fresh h1 this.1 (Nat.le_refl _), apart_fresh h1 this.2 (Nat.le_refl _)⟩, apart_fresh h2 this.1 (Nat.le_refl _), apart_fresh h2 this.2 (Nat.le_refl _)⟩)
  rw [partZ_set f k nd hk, hp] at key
  exact key

theorem OwnF.cell {w : World} {base k g n c : Nat} {vs : List (Value × Value)} {f : List Nz} (h : OwnF w base (.slice (some ⟨g, 0, none⟩) n c) vs f) (hn : f.length = n) (hk : k < n) :
    (∃ x1, w.cell? ⟨g, k * 2, none⟩ = some x1) ∧ (∃ x2, w.cell? ⟨g, k * 2 + 1, none⟩ = some x2) ∧ ∀ o, w.frozen? ⟨g, o, none⟩ = false := by
  subst hn
  obtain ⟨p, hp⟩ := lt_get (l := vs) (i := k) (by rw [h.len]; exact hk)
  have hr := rowN2_at vs k p hp
  exact ⟨⟨_, (World.ownsRow.cellAt h.nodes (k * 2) (by omega)).trans hr.1⟩, ⟨_, (World.ownsRow.cellAt h.nodes (k * 2 + 1) (by omega)).trans hr.2⟩, fun o => World.ownsRow.frozenAt h.nodes o⟩

set_option maxHeartbeats 1000000 in
theorem toNodeS_own (v : Value) (f : List Nz) (w : World) (lo hi : Nat) (hh : hi ≤ w.heap.size) (hv : NodesZ w lo hi v f) (hl : szNs f ≤ 1048576) :
    Calls Tryz.prog 105 #[v] w fun e w' => ∃ g vs, e = .returned (.slice (some ⟨g, 0, none⟩) f.length f.length) ∧ OwnF w' w.heap.size (.slice (some ⟨g, 0, none⟩) f.length f.length) vs f ∧ Below w.heap.size w w' := by
  obtain ⟨i0, hi0, hz0, hz1, hz2⟩ := info_parts infoNodeA
  have HV := Lib.hid hv
  have HL := Lib.hid hl
  have hfl : f.length ≤ 1048576 := by unfold szNs at hl; omega
  clear hl
  obtain ⟨ao, c, rfl, _, _⟩ := hv
  go_enter Tryz.func105, Tryz.ntmps105
  go_wp2_with (at_make; refine wpList_make_full _ rfl _ _ 24 rfl w.heap.size 67 i0 (.agg #[.slice none 0 0, .slice none 0 0]) 2 Tryz.underlying24 hi0 hz0 hz1 _ _ _ _ f.length rfl rfl rfl rfl (by rw [hz2]; omega) (by unfold maxLen; omega) (Nat.le_refl _) ?_; intro w1 hown hg)
  have HT : Hid (OwnF w1 w.heap.size (.slice (some ⟨w.heap.size, 0, none⟩) f.length f.length) (List.replicate f.length (.slice none 0 0, .slice none 0 0)) (partZ f 0)) := Lib.hid (by rw [partZ_zero]; exact ownF_made hown)
  have HG := Lib.hid hg
  clear hown hg
  have HB : Hid (Below w.heap.size w w1) := Lib.hid ((Below.refl _ _).grown HG.out (Nat.le_refl _) (fun k hk => by cases hk))
  clear HG
  go_wp2
  go_loopw [4] (fun i wr => ∃ (k : Nat) (vs : List (Value × Value)), k ≤ f.length ∧ i = .int .i64 k ∧ Hid (OwnF wr w.heap.size (.slice (some ⟨w.heap.size, 0, none⟩) f.length f.length) vs (partZ f k)) ∧ Hid (Below w.heap.size w wr)) (fun i _ => f.length - (intOf i).toNat)
  case atStart => exact ⟨0, _, Nat.zero_le _, rfl, HT, HB⟩
  case round =>
    obtain ⟨k, vs, hk, rfl, ht, hb⟩ := hrel
    by_cases hlt : k < f.length
    · obtain ⟨nd, hx⟩ : ∃ x, f[k]? = some x := ⟨f[k], List.getElem?_eq_getElem hlt⟩
      have hsz : szN nd ≤ 1048576 := by
        have h1 := szN_mem f nd (List.mem_of_getElem? hx)
        have h2 := HL.out
        unfold szNs at h2
        omega
      obtain ⟨ao1, c1, e1, _, hn⟩ := HV.out.below hb.out hh
      obtain ⟨b, off, v1, v2, rfl, _, _, p1, p2, i1, i2⟩ := hn k nd hx
      obtain ⟨q1, q2, q3⟩ := slice_inj e1
      subst q1 q3
      clear q2 hn e1
      have hbz := hb.out.size
      have hgz : w.heap.size < wr.heap.size := (World.ownsRow.lt ht.out.nodes _ rfl).2
      have C := Lib.hid (toNode_own v1 v2 nd wr lo hi (by omega) i1 i2 hsz)
      have HX := Lib.hid hx
      clear i1 i2 hsz hx
      have b0 : (0 : Int) ≤ k := by omega
      have b1 : (k : Int) < f.length := by omega
      go_wp2_with fail
      refine C.out.mono ?_
      rintro e w4 ⟨g1, n1, c1, g2, n2, c2, rfl, hne, j1, j2, hb4⟩
      obtain ⟨⟨x1, d1⟩, ⟨x2, d2⟩, hfz⟩ := (ht.out.below hb4).cell (k := k) (partZ_len f k (by omega)) hlt
      have R1 := Lib.hid (ht.out.next (p := (.slice (some ⟨g1, 0, none⟩) n1 c1, .slice (some ⟨g2, 0, none⟩) n2 c2)) HX.out hb4 hbz j1 j2 (fun g0 e1 e2 => by
        have h3 : g1 = g0 := by injection e1
        have h4 : g2 = g0 := by injection e2
        omega))
      have R2 : Hid (Below w.heap.size w ((w4.setCell ⟨w.heap.size, k * 2, none⟩ (.slice (some ⟨g1, 0, none⟩) n1 c1)).setCell ⟨w.heap.size, k * 2 + 1, none⟩ (.slice (some ⟨g2, 0, none⟩) n2 c2))) :=
        Lib.hid (((hb.out.trans (hb4.mono hbz)).setCell (Nat.le_refl _) _).setCell (Nat.le_refl _) _)
      clear j1 j2 hb4 ht hb C p1 p2
      go_wp2
      go_roundw
      case rel => exact ⟨k + 1, _, by omega, by go_num, R1, R2⟩
      case measure => simp [intOf]; omega
    · have HA : Hid (OwnF wr w.heap.size (.slice (some ⟨w.heap.size, 0, none⟩) f.length f.length) vs f) := Lib.hid (by
        have h := ht.out
        rw [show k = f.length from by omega, partZ_all] at h
        exact h)
      clear ht
      go_wp2
      go_ret
      exact ⟨_, _, rfl, HA.out, hb.out⟩

set_option maxHeartbeats 1000000 in
theorem toForm_own (v : Value) (f : List Nz) (w : World) (lo hi : Nat) (hh : hi ≤ w.heap.size) (hv : NodesZ w lo hi v f) (hl : szNs f ≤ 1048576) :
    Calls Tryz.prog 46 #[.agg #[v]] w fun e w' => ∃ g vs, e = .returned (.agg #[.slice (some ⟨g, 0, none⟩) f.length f.length]) ∧ OwnF w' w.heap.size (.slice (some ⟨g, 0, none⟩) f.length f.length) vs f ∧ Below w.heap.size w w' := by
  have C1 := Lib.hid fun (W : World) (hW : Below w.heap.size w W) => toNodeS_own v f W lo hi (by have := hW.size; omega) (hv.below hW hh) hl
  have HB0 := Lib.hid fun o o' o'' => show Below w.heap.size w (((w.alloc o).alloc o').alloc o'') from (((Below.refl _ _).alloc (Nat.le_refl _) _).alloc (by simp) _).alloc (by first | (simp; done) | (simp; omega)) _
  clear hv
  go_enter Tryz.func46, Tryz.ntmps46
  go_wp2_with fail
  refine (C1.out _ (HB0.out _ _ _)).mono ?_
  rintro e w4 ⟨g, vs, rfl, ho, hb⟩
  obtain ⟨hc4, hf4⟩ := bcell2 hb
  have hz4 := hb.size
  (try simp at hz4)
  have hy0 : w.heap.size < w4.heap.size := by omega
  have hy1 : w.heap.size + 1 < w4.heap.size := by omega
  have hy2 : w.heap.size + 2 < w4.heap.size := by omega
  have HO : Hid (OwnF w4 (w.heap.size + 3) (.slice (some ⟨g, 0, none⟩) f.length f.length) vs f) := Lib.hid (ho.mono (by first | (simp; done) | (simp; omega)))
  have HB4 := Lib.hid (Below.trans (HB0.out _ _ _) (hb.mono (by first | (simp; done) | (simp; omega))))
  clear hb ho
  go_wp2_with fail
  refine bodyPost_ret (v := .agg #[.slice (some ⟨g, 0, none⟩) f.length f.length]) (by simp [*, results, Tryz.results46, go_sem]) rfl ?_
  refine ⟨_, vs, rfl, ?_, ?_⟩
  · exact ((HO.out.setCell (by show w.heap.size + 1 + 1 < w.heap.size + 3; omega)).setCell (by show w.heap.size + 1 < w.heap.size + 3; omega)).mono (by omega)
  · exact (HB4.out.setCell (by show w.heap.size ≤ w.heap.size + 1 + 1; omega) _).setCell (by show w.heap.size ≤ w.heap.size + 1; omega) _

end Go.Proofs.YtabfdaofikccmaaGreat
