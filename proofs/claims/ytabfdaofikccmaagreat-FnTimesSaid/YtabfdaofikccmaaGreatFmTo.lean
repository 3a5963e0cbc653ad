/- laws.toForm and what it calls: a form is copied. -/
import Derived.Test.YtabfdaofikccmaaGreatFmBase
import Derived.Deep.RegionHeld3
namespace Go.Proofs.YtabfdaofikccmaaGreat
set_option linter.unusedVariables false
set_option linter.unusedSimpArgs false
open Go.RowKit

theorem infoIntA : (Tryz.prog.info? 3).map (fun i => (i.zero, i.size, i.bytes)) = some (some (.int .i64 0), 1, 8) := by kernel_rfl

/-- what has been copied, and zeros -/
def copiedI (l : List Int) (k : Nat) : List Value := (l.take k).map (Value.int .i64) ++ List.replicate (l.length - k) (.int .i64 0)

theorem takeS_snoc {α : Type} (l : List α) (k : Nat) (h : k < l.length) : l.take (k + 1) = l.take k ++ [l[k]] := by
  rw [List.take_succ_eq_append_getElem h]

theorem copiedI_set (l : List Int) (k : Nat) (h : k < l.length) : (copiedI l k).set k (.int .i64 l[k]) = copiedI l (k + 1) := by
  unfold copiedI
  have hl : ((l.take k).map (Value.int .i64)).length = k := by simp; omega
  rw [List.set_append_right _ _ (by omega), hl, Nat.sub_self, takeS_snoc l k h, List.map_append, List.append_assoc]
  congr 1
  rw [show l.length - k = (l.length - (k + 1)) + 1 from by omega, List.replicate_succ]
  rfl

theorem copiedI_len (l : List Int) (k : Nat) (h : k ≤ l.length) : (copiedI l k).length = l.length := by
  simp [copiedI]; omega

theorem copiedI_all (l : List Int) : copiedI l l.length = l.map (Value.int .i64) := by
  simp [copiedI]

theorem grownBy_below' {w w' : World} (h : Below w.heap.size w w') (row : Option Nat) : w.grownBy w' row := ⟨h.os, h.tape, h.output, h.size, fun k hk _ => h.block k hk⟩

theorem made_one (z : Value) (n : Nat) : (madeCells #[z] n).toList = List.replicate n z := by
  apply List.ext_getElem
  · simp [madeCells]
  · intro i h1 h2
    simp [madeCells, Nat.mod_one]

theorem copyIRel {base g c k : Nat} {w wr : World} {l : List Int} (hk : k < l.length) (hge : w.heap.size ≤ g)
    (hown : wr.ownsRow base 3 1 (.slice (some ⟨g, 0, none⟩) l.length c) l.length (copiedI l k)) (hb : Below w.heap.size w wr) :
    (wr.setCell ⟨g, k, none⟩ (.int .i64 l[k])).ownsRow base 3 1 (.slice (some ⟨g, 0, none⟩) l.length c) l.length (copiedI l (k + 1)) ∧ Below w.heap.size w (wr.setCell ⟨g, k, none⟩ (.int .i64 l[k])) := by
  have h2 := hown.stored k (.int .i64 l[k])
  rw [copiedI_set l k hk] at h2
  exact ⟨h2.1, hb.grown h2.2 hb.size (fun q hq => by simp at hq; omega)⟩

theorem copyICell {base g c k : Nat} {wr : World} {l : List Int} (hk : k < l.length)
    (hown : wr.ownsRow base 3 1 (.slice (some ⟨g, 0, none⟩) l.length c) l.length (copiedI l k)) :
    (∃ v, wr.cell? ⟨g, k, none⟩ = some v) ∧ wr.frozen? ⟨g, k, none⟩ = false := by
  refine ⟨?_, hown.frozenAt k⟩
  have h2 := hown.cellAt k (by omega)
  have hl := copiedI_len l k (by omega)
  exact ⟨_, h2.trans (List.getElem?_eq_getElem (by omega))⟩

theorem World.ownsRow.caps {w : World} {base : Nat} {e : TypeId} {size g n c : Nat} {xs : List Value} (h : w.ownsRow base e size (.slice (some ⟨g, 0, none⟩) n c) n xs) : n ≤ c ∧ c ≤ 9223372036854775807 := by
  rcases h.2 with ⟨h1, h0⟩ | ⟨g', cap, cur, hv, _, _, h2, h3, _⟩
  · cases h1
  · injection hv with _ _ hv
    subst hv
    exact ⟨h2, h3⟩

/-- a row of the call's own reads as its numbers -/
theorem ints_own {base g c : Nat} {w : World} {l : List Int} (h : w.ownsRow base 3 1 (.slice (some ⟨g, 0, none⟩) l.length c) l.length (l.map (Value.int .i64))) (hl : l.length ≤ 9223372036854775807) (hg : g < w.heap.size) :
    IntsZ w g (g + 1) (.slice (some ⟨g, 0, none⟩) l.length c) l := by
  refine ⟨_, _, rfl, World.ownsRow.caps h, fun j x hx => ⟨g, 0, rfl, Nat.le_refl _, by omega, ?_⟩⟩
  have hj := get_lt hx
  have h2 := h.cellAt j (by omega)
  rw [Nat.zero_add]
  rw [h2, List.getElem?_map, hx]
  rfl

set_option maxHeartbeats 1000000 in
theorem toIntS_own (v : Value) (l : List Int) (w : World) (lo hi : Nat) (hh : hi ≤ w.heap.size) (hv : IntsZ w lo hi v l) (hl : l.length ≤ 1048576) :
    Calls Tryz.prog 187 #[v] w fun e w' => ∃ g c, e = .returned (.slice (some ⟨g, 0, none⟩) l.length c) ∧ w.heap.size ≤ g ∧ g < w'.heap.size ∧ w'.ownsRow w.heap.size 3 1 (.slice (some ⟨g, 0, none⟩) l.length c) l.length (l.map (Value.int .i64)) ∧ Below w.heap.size w w' := by
  obtain ⟨i0, hi0, hz0, hz1, hz2⟩ := info_parts infoIntA
  have HV := Lib.hid hv
  obtain ⟨ao, c, rfl, _, _⟩ := hv
  go_enter Tryz.func187, Tryz.ntmps187
  go_wp2_with (at_make; refine wpList_make_full _ rfl _ _ 65 rfl w.heap.size 3 i0 (.int .i64 0) 1 Tryz.underlying65 hi0 hz0 hz1 _ _ _ _ l.length rfl rfl rfl rfl (by rw [hz2]; omega) (by unfold maxLen; omega) (Nat.le_refl _) ?_; intro w1 hown hg)
  have HO : Hid (w1.ownsRow w.heap.size 3 1 (.slice (some ⟨w.heap.size, 0, none⟩) l.length l.length) l.length (copiedI l 0)) := by
    have e : (madeCells (Value.int .i64 0).cells (l.length * 1)).toList = copiedI l 0 := by
      show (madeCells #[Value.int .i64 0] (l.length * 1)).toList = _
      rw [Nat.mul_one, made_one]
      simp [copiedI]
    rw [← e]
    exact Lib.hid hown
  have HG := Lib.hid hg
  have hsz : w.heap.size < w1.heap.size := (hown.lt _ rfl).2
  clear hown hg
  have HB : Hid (Below w.heap.size w w1) := Lib.hid ((Below.refl _ _).grown HG.out (Nat.le_refl _) (fun k hk => by cases hk))
  clear HG
  go_wp2
  go_loopw [4] (fun i wr => ∃ k : Nat, k ≤ l.length ∧ i = .int .i64 k ∧ w.heap.size < wr.heap.size ∧ Hid (wr.ownsRow w.heap.size 3 1 (.slice (some ⟨w.heap.size, 0, none⟩) l.length l.length) l.length (copiedI l k)) ∧ Hid (Below w.heap.size w wr)) (fun i _ => l.length - (intOf i).toNat)
  case atStart => exact ⟨0, Nat.zero_le _, rfl, hsz, HO, HB⟩
  case round =>
    obtain ⟨k, hk, rfl, hz, ho, hb⟩ := hrel
    by_cases hlt : k < l.length
    · obtain ⟨ao', c', e', _, hn⟩ := HV.out.below hb.out hh
      obtain ⟨b, off, rfl, _, _, hc⟩ := hn k l[k] (List.getElem?_eq_getElem hlt)
      injection e' with e1 e2 e3
      obtain rfl := e1
      clear hn e2 e3
      obtain ⟨⟨v, hv⟩, hf⟩ := copyICell hlt ho.out
      have R := copyIRel hlt (Nat.le_refl _) ho.out hb.out
      have R1 := Lib.hid R.1
      have R2 := Lib.hid R.2
      clear R ho hb
      generalize l[k] = x at hc R1 R2
      have b0 : (0 : Int) ≤ k := by omega
      have b1 : (k : Int) < l.length := by omega
      go_wp2
      go_roundw
      case rel => exact ⟨k + 1, by omega, by go_num, by simpa using hz, R1, R2⟩
      case measure => simp [intOf]; omega
    · have HA : Hid (wr.ownsRow w.heap.size 3 1 (.slice (some ⟨w.heap.size, 0, none⟩) l.length l.length) l.length (l.map (Value.int .i64))) := by
        have h2 := ho.out
        rw [show k = l.length from by omega, copiedI_all] at h2
        exact Lib.hid h2
      clear ho
      go_wp2
      go_ret
      exact ⟨_, _, rfl, Nat.le_refl _, hz, HA.out, hb.out⟩

theorem toIntS_calls (v : Value) (l : List Int) (w : World) (lo hi : Nat) (hh : hi ≤ w.heap.size) (hv : IntsZ w lo hi v l) (hl : l.length ≤ 1048576) :
    Calls Tryz.prog 187 #[v] w fun e w' => ∃ a n c, e = .returned (.slice a n c) ∧ IntsZ w' w.heap.size w'.heap.size (.slice a n c) l ∧ Below w.heap.size w w' :=
  (toIntS_own v l w lo hi hh hv hl).mono fun _ _ ⟨_, _, he, hg, hg2, ho, hb⟩ => ⟨_, _, _, he, (ints_own ho (by omega) hg2).wide hg (by omega), hb⟩

theorem IntsZ.form {w : World} {lo hi : Nat} {v : Value} {l : List Int} (h : IntsZ w lo hi v l) : ∃ a n c, v = .slice a n c := by obtain ⟨a, c, h, _⟩ := h; exact ⟨a, _, c, h⟩

set_option maxHeartbeats 1000000 in
theorem toNode_calls (v1 v2 : Value) (nd : Nz) (w : World) (lo hi : Nat) (hh : hi ≤ w.heap.size) (h1 : IntsZ w lo hi v1 nd.1) (h2 : IntsZ w lo hi v2 nd.2) (hl : szN nd ≤ 1048576) :
    Calls Tryz.prog 164 #[.agg #[v1, v2]] w fun e w' => ∃ a1 n1 c1 a2 n2 c2, e = .returned (.agg #[.slice a1 n1 c1, .slice a2 n2 c2]) ∧ IntsZ w' w.heap.size w'.heap.size (.slice a1 n1 c1) nd.1 ∧ IntsZ w' w.heap.size w'.heap.size (.slice a2 n2 c2) nd.2 ∧ Below w.heap.size w w' := by
  unfold szN at hl
  have C1 := Lib.hid fun (W : World) (hW : Below w.heap.size w W) => toIntS_calls v1 nd.1 W lo hi (by have := hW.size; omega) (h1.below hW hh) (by omega)
  have C2 := Lib.hid fun (W : World) (hW : Below w.heap.size w W) => toIntS_calls v2 nd.2 W lo hi (by have := hW.size; omega) (h2.below hW hh) (by omega)
  have HB0 := Lib.hid fun o o' o'' => show Below w.heap.size w (((w.alloc o).alloc o').alloc o'') from (((Below.refl _ _).alloc (Nat.le_refl _) _).alloc (by simp) _).alloc (by first | (simp; done) | (simp; omega)) _
  clear h1 h2
  go_enter Tryz.func164, Tryz.ntmps164
  go_wp2_with fail
  refine (C1.out _ (HB0.out _ _ _)).mono ?_
  rintro e w4 ⟨a1, n1, c1, rfl, hi1, hb⟩
  obtain ⟨hc4, hf4⟩ := bcell2 hb
  have hz4 := hb.size
  (try simp at hz4)
  have hy0 : w.heap.size < w4.heap.size := by omega
  have hy1 : w.heap.size + 1 < w4.heap.size := by omega
  have hy2 : w.heap.size + 2 < w4.heap.size := by omega
  have HI1 := Lib.hid (hi1.wide (lo' := w.heap.size + 3) (hi' := w4.heap.size) (by first | (simp; done) | (simp; omega)) (Nat.le_refl _))
  have HB4 := Lib.hid (Below.trans (HB0.out _ _ _) (hb.mono (by first | (simp; done) | (simp; omega))))
  clear hb hi1
  go_wp2_with fail
  refine (C2.out _ (HB4.out.setCell (by first | (simp; done) | (simp; omega)) _)).mono ?_
  rintro e w5 ⟨a2, n2, c2, rfl, hi2, hb⟩
  obtain ⟨hc5, hf5⟩ := bcell2 hb
  have hz5 := hb.size
  (try simp at hz5)
  have HI1 := Lib.hid (HI1.out.keep ((sameIn_set w4 ⟨w.heap.size + 1 + 1, 0, none⟩ (.slice a1 n1 c1) (Or.inl (by simp))).trans (Below.sameIn hb (by simp))))
  have HI2 := Lib.hid (hi2.wide (lo' := w.heap.size + 3) (hi' := w5.heap.size) (by first | (simp; done) | (simp; omega)) (Nat.le_refl _))
  have HB5 := Lib.hid (Below.trans (HB4.out.setCell (p := ⟨w.heap.size + 1 + 1, 0, none⟩) (by first | (simp; done) | (simp; omega)) (.slice a1 n1 c1)) (hb.mono (by first | (simp; done) | (simp; omega))))
  clear hb hi2
  have hyy0 : w.heap.size < w5.heap.size := by omega
  have hyy1 : w.heap.size + 1 < w5.heap.size := by omega
  have hyy2 : w.heap.size + 2 < w5.heap.size := by omega
  go_wp2_with fail
  refine bodyPost_ret (v := .agg #[.slice a1 n1 c1, .slice a2 n2 c2]) (by simp [*, results, Tryz.results164, go_sem]) rfl ?_
  have q0 : w.heap.size + 1 < w.heap.size + 3 := by omega
  have q1 : w.heap.size + 1 + 1 < w.heap.size + 3 := by omega
  refine ⟨_, _, _, _, _, _, rfl, ?_, ?_, ?_⟩
  · exact (IntsZ.setCell (Or.inl q0) (IntsZ.setCell (Or.inl q0) (IntsZ.setCell (Or.inl q1) HI1.out))).wide (by omega) (by simp; omega)
  · exact (IntsZ.setCell (Or.inl q0) (IntsZ.setCell (Or.inl q0) (IntsZ.setCell (Or.inl q1) HI2.out))).wide (by omega) (by simp)
  · exact ((HB5.out.setCell (by show w.heap.size ≤ w.heap.size + 1 + 1; omega) _).setCell (by show w.heap.size ≤ w.heap.size + 1; omega) _).setCell (by show w.heap.size ≤ w.heap.size + 1; omega) _

theorem infoNodeA : (Tryz.prog.info? 67).map (fun i => (i.zero, i.size, i.bytes)) = some (some (.agg #[.slice none 0 0, .slice none 0 0]), 2, 48) := by kernel_rfl

/-- nodes that are being copied into block g: k of them are there -/
def NodesTo (w0 : Nat) (f : List Nz) (k : Nat) (w : World) : Prop :=
  (∀ j, j < f.length → ∃ v1 v2, w.cell? ⟨w0, j * 2, none⟩ = some v1 ∧ w.cell? ⟨w0, j * 2 + 1, none⟩ = some v2 ∧ (j < k → ∀ nd, f[j]? = some nd → IntsZ w (w0 + 1) w.heap.size v1 nd.1 ∧ IntsZ w (w0 + 1) w.heap.size v2 nd.2)) ∧
  (∀ o, w.frozen? ⟨w0, o, none⟩ = false) ∧ w0 < w.heap.size

theorem NodesTo.below {w0 k : Nat} {f : List Nz} {w w' : World} (h : NodesTo w0 f k w) (hb : Below w.heap.size w w') : NodesTo w0 f k w' := by
  obtain ⟨h1, h2, h3⟩ := h
  have hz := hb.size
  refine ⟨fun j hj => ?_, fun o => ((bcell2 hb).2 w0 o h3).trans (h2 o), by omega⟩
  obtain ⟨v1, v2, c1, c2, h4⟩ := h1 j hj
  exact ⟨v1, v2, (bcell hb w0 _ h3).trans c1, (bcell hb w0 _ h3).trans c2, fun hk nd hnd => ⟨((h4 hk nd hnd).1.below hb (Nat.le_refl _)).wide (Nat.le_refl _) hz, ((h4 hk nd hnd).2.below hb (Nat.le_refl _)).wide (Nat.le_refl _) hz⟩⟩

theorem cell_set2 {w : World} {g a b : Nat} {u1 u2 v : Value} (hc : w.cell? ⟨g, a, none⟩ = some v) : ∃ v', ((w.setCell ⟨g, b, none⟩ u1).setCell ⟨g, b + 1, none⟩ u2).cell? ⟨g, a, none⟩ = some v' ∧ (a ≠ b → a ≠ b + 1 → v' = v) ∧ (a = b → v' = u1) ∧ (a = b + 1 → v' = u2) := by
  by_cases h1 : a = b + 1
  · subst h1
    refine ⟨u2, ?_, fun _ h => absurd rfl h, fun h => by omega, fun _ => rfl⟩
    have hc2 : (w.setCell ⟨g, b, none⟩ u1).cell? ⟨g, b + 1, none⟩ = some v := (World.cell?_setCell_other w _ _ u1 (fun e => by injection e with _ e _; omega)).trans hc
    exact World.cell?_setCell_same _ _ u2 hc2
  · by_cases h2 : a = b
    · subst h2
      refine ⟨u1, ?_, fun h => absurd rfl h, fun _ => rfl, fun h => by omega⟩
      rw [World.cell?_setCell_other _ _ _ u2 (fun e => by injection e with _ e _; omega)]
      exact World.cell?_setCell_same _ _ u1 hc
    · refine ⟨v, ?_, fun _ _ => rfl, fun h => absurd h h2, fun h => absurd h h1⟩
      rw [World.cell?_setCell_other _ _ _ u2 (fun e => by injection e with _ e _; omega), World.cell?_setCell_other _ _ _ u1 (fun e => by injection e with _ e _; omega)]
      exact hc

theorem NodesTo.put {w0 k : Nat} {f : List Nz} {w : World} {v1 v2 : Value} {nd : Nz} (h : NodesTo w0 f k w) (hk : f[k]? = some nd) (h1 : IntsZ w (w0 + 1) w.heap.size v1 nd.1) (h2 : IntsZ w (w0 + 1) w.heap.size v2 nd.2) :
    NodesTo w0 f (k + 1) ((w.setCell ⟨w0, k * 2, none⟩ v1).setCell ⟨w0, k * 2 + 1, none⟩ v2) := by
  obtain ⟨g1, g2, g3⟩ := h
  have hz : ((w.setCell ⟨w0, k * 2, none⟩ v1).setCell ⟨w0, k * 2 + 1, none⟩ v2).heap.size = w.heap.size := by simp
  have hs : ∀ {v l}, IntsZ w (w0 + 1) w.heap.size v l → IntsZ ((w.setCell ⟨w0, k * 2, none⟩ v1).setCell ⟨w0, k * 2 + 1, none⟩ v2) (w0 + 1) ((w.setCell ⟨w0, k * 2, none⟩ v1).setCell ⟨w0, k * 2 + 1, none⟩ v2).heap.size v l := fun hi => by
    rw [hz]
    exact IntsZ.setCell (Or.inl (Nat.lt_succ_self _)) (IntsZ.setCell (Or.inl (Nat.lt_succ_self _)) hi)
  refine ⟨fun j hj => ?_, fun o => by simpa using g2 o, by rw [hz]; exact g3⟩
  obtain ⟨x1, x2, c1, c2, h4⟩ := g1 j hj
  obtain ⟨y1, d1, n1, s1, _⟩ := cell_set2 (b := k * 2) (u1 := v1) (u2 := v2) c1
  obtain ⟨y2, d2, n2, _, s2⟩ := cell_set2 (b := k * 2) (u1 := v1) (u2 := v2) c2
  refine ⟨y1, y2, d1, d2, fun hjk nd' hnd' => ?_⟩
  by_cases e : j = k
  · subst e
    rw [hk] at hnd'
    injection hnd' with hnd'
    subst hnd'
    rw [s1 rfl, s2 rfl]
    exact ⟨hs h1, hs h2⟩
  · rw [n1 (by omega) (by omega), n2 (by omega) (by omega)]
    have := h4 (by omega) nd' hnd'
    exact ⟨hs this.1, hs this.2⟩

set_option maxHeartbeats 1000000 in
theorem toNodeS_calls (v : Value) (f : List Nz) (w : World) (lo hi : Nat) (hh : hi ≤ w.heap.size) (hv : NodesZ w lo hi v f) (hl : szNs f ≤ 1048576) :
    Calls Tryz.prog 105 #[v] w fun e w' => ∃ a n c, e = .returned (.slice a n c) ∧ NodesZ w' w.heap.size w'.heap.size (.slice a n c) f ∧ Below w.heap.size w w' := by
  obtain ⟨i0, hi0, hz0, hz1, hz2⟩ := info_parts infoNodeA
  have HV := Lib.hid hv
  have HL := Lib.hid hl
  have hfl : f.length ≤ 1048576 := by unfold szNs at hl; omega
  clear hl
  obtain ⟨ao, c, rfl, _, _⟩ := hv
  go_enter Tryz.func105, Tryz.ntmps105
  go_wp2_with (at_make; refine wpList_make_full _ rfl _ _ 24 rfl w.heap.size 67 i0 (.agg #[.slice none 0 0, .slice none 0 0]) 2 Tryz.underlying24 hi0 hz0 hz1 _ _ _ _ f.length rfl rfl rfl rfl (by rw [hz2]; omega) (by unfold maxLen; omega) (Nat.le_refl _) ?_; intro w1 hown hg)
  have HT : Hid (NodesTo w.heap.size f 0 w1) := by
    refine Lib.hid ⟨fun j hj => ?_, fun o => hown.frozenAt o, (hown.lt _ rfl).2⟩
    have hlen : (madeCells (Value.agg #[Value.slice none 0 0, Value.slice none 0 0]).cells (f.length * 2)).toList.length = f.length * 2 := hown.1
    have c1 := hown.cellAt (j * 2) (by omega)
    have c2 := hown.cellAt (j * 2 + 1) (by omega)
    obtain ⟨x1, e1⟩ := lt_get (l := (madeCells (Value.agg #[Value.slice none 0 0, Value.slice none 0 0]).cells (f.length * 2)).toList) (i := j * 2) (by omega)
    obtain ⟨x2, e2⟩ := lt_get (l := (madeCells (Value.agg #[Value.slice none 0 0, Value.slice none 0 0]).cells (f.length * 2)).toList) (i := j * 2 + 1) (by omega)
    exact ⟨x1, x2, c1.trans e1, c2.trans e2, fun h => by omega⟩
  have HG := Lib.hid hg
  clear hown hg
  have HB : Hid (Below w.heap.size w w1) := Lib.hid ((Below.refl _ _).grown HG.out (Nat.le_refl _) (fun k hk => by cases hk))
  clear HG
  go_wp2
  go_loopw [4] (fun i wr => ∃ k : Nat, k ≤ f.length ∧ i = .int .i64 k ∧ Hid (NodesTo w.heap.size f k wr) ∧ Hid (Below w.heap.size w wr)) (fun i _ => f.length - (intOf i).toNat)
  case atStart => exact ⟨0, Nat.zero_le _, rfl, HT, HB⟩
  case round =>
    obtain ⟨k, hk, rfl, ht, hb⟩ := hrel
    by_cases hlt : k < f.length
    · obtain ⟨nd, hx⟩ : ∃ x, f[k]? = some x := ⟨f[k], List.getElem?_eq_getElem hlt⟩
      have hsz : szN nd ≤ 1048576 := by
        have h1 := szN_mem f nd (List.mem_of_getElem? hx)
        have h2 := HL.out
        unfold szNs at h2
        omega
      obtain ⟨ao1, c1, e1, _, hn⟩ := HV.out.below hb.out hh
      obtain ⟨b, off, v1, v2, rfl, _, _, p1, p2, i1, i2⟩ := hn k nd hx
      injection e1 with e1 q1 q2
      obtain rfl := e1
      clear q1 q2 hn
      have hbz := hb.out.size
      have hgz := ht.out.2.2
      have C := Lib.hid (toNode_calls v1 v2 nd wr lo hi (by omega) i1 i2 hsz)
      have HX := Lib.hid hx
      clear i1 i2 hsz hx
      have b0 : (0 : Int) ≤ k := by omega
      have b1 : (k : Int) < f.length := by omega
      go_wp2_with fail
      refine C.out.mono ?_
      rintro e w4 ⟨a1, n1, c1, a2, n2, c2, rfl, j1, j2, hb4⟩
      have ht4 := ht.out.below hb4
      obtain ⟨⟨x1, x2, d1, d2, _⟩, hfz⟩ := (show (∃ v1 v2, w4.cell? ⟨w.heap.size, k * 2, none⟩ = some v1 ∧ w4.cell? ⟨w.heap.size, k * 2 + 1, none⟩ = some v2 ∧ True) ∧ ∀ o, w4.frozen? ⟨w.heap.size, o, none⟩ = false from by
        obtain ⟨x1, x2, d1, d2, _⟩ := ht4.1 k hlt
        exact ⟨⟨x1, x2, d1, d2, trivial⟩, ht4.2.1⟩)
      have R1 := Lib.hid (ht4.put HX.out (j1.wide (by omega) (Nat.le_refl _)) (j2.wide (by omega) (Nat.le_refl _)))
      have R2 : Hid (Below w.heap.size w ((w4.setCell ⟨w.heap.size, k * 2, none⟩ (.slice a1 n1 c1)).setCell ⟨w.heap.size, k * 2 + 1, none⟩ (.slice a2 n2 c2))) :=
        Lib.hid (((hb.out.trans (hb4.mono hbz)).setCell (Nat.le_refl _) _).setCell (Nat.le_refl _) _)
      clear ht4 j1 j2 hb4 ht hb C p1 p2
      go_wp2
      go_roundw
      case rel => exact ⟨k + 1, by omega, by go_num, R1, R2⟩
      case measure => simp [intOf]; omega
    · have HA : Hid (NodesZ wr w.heap.size wr.heap.size (.slice (some ⟨w.heap.size, 0, none⟩) f.length f.length) f) := by
        have hke : k = f.length := by omega
        subst hke
        refine Lib.hid ⟨_, _, rfl, by omega, fun j nd hnd => ?_⟩
        obtain ⟨v1, v2, c1, c2, h4⟩ := ht.out.1 j (get_lt hnd)
        have h5 := h4 (get_lt hnd) nd hnd
        exact ⟨w.heap.size, 0, v1, v2, rfl, Nat.le_refl _, ht.out.2.2, by rw [Nat.zero_add]; exact c1, by rw [Nat.zero_add]; exact c2, h5.1.wide (by omega) (Nat.le_refl _), h5.2.wide (by omega) (Nat.le_refl _)⟩
      clear ht
      go_wp2
      go_ret
      exact ⟨_, _, _, rfl, HA.out, hb.out⟩

set_option maxHeartbeats 1000000 in
theorem toForm_calls (v : Value) (f : List Nz) (w : World) (lo hi : Nat) (hh : hi ≤ w.heap.size) (hv : NodesZ w lo hi v f) (hl : szNs f ≤ 1048576) :
    Calls Tryz.prog 46 #[.agg #[v]] w fun e w' => ∃ a n c, e = .returned (.agg #[.slice a n c]) ∧ NodesZ w' w.heap.size w'.heap.size (.slice a n c) f ∧ Below w.heap.size w w' := by
  have C1 := Lib.hid fun (W : World) (hW : Below w.heap.size w W) => toNodeS_calls v f W lo hi (by have := hW.size; omega) (hv.below hW hh) hl
  have HB0 := Lib.hid fun o o' o'' => show Below w.heap.size w (((w.alloc o).alloc o').alloc o'') from (((Below.refl _ _).alloc (Nat.le_refl _) _).alloc (by simp) _).alloc (by first | (simp; done) | (simp; omega)) _
  clear hv
  go_enter Tryz.func46, Tryz.ntmps46
  go_wp2_with fail
  refine (C1.out _ (HB0.out _ _ _)).mono ?_
  rintro e w4 ⟨a1, n1, c1, rfl, hi1, hb⟩
  obtain ⟨hc4, hf4⟩ := bcell2 hb
  have hz4 := hb.size
  (try simp at hz4)
  have hy0 : w.heap.size < w4.heap.size := by omega
  have hy1 : w.heap.size + 1 < w4.heap.size := by omega
  have hy2 : w.heap.size + 2 < w4.heap.size := by omega
  have HI1 := Lib.hid (hi1.wide (lo' := w.heap.size + 3) (hi' := w4.heap.size) (by first | (simp; done) | (simp; omega)) (Nat.le_refl _))
  have HB4 := Lib.hid (Below.trans (HB0.out _ _ _) (hb.mono (by first | (simp; done) | (simp; omega))))
  clear hb hi1
  go_wp2_with fail
  refine bodyPost_ret (v := .agg #[.slice a1 n1 c1]) (by simp [*, results, Tryz.results46, go_sem]) rfl ?_
  have q0 : w.heap.size + 1 < w.heap.size + 3 := by omega
  have q1 : w.heap.size + 1 + 1 < w.heap.size + 3 := by omega
  refine ⟨_, _, _, rfl, ?_, ?_⟩
  · exact (NodesZ.setCell (Or.inl q0) (NodesZ.setCell (Or.inl q1) HI1.out)).wide (by omega) (by simp)
  · exact (HB4.out.setCell (by show w.heap.size ≤ w.heap.size + 1 + 1; omega) _).setCell (by show w.heap.size ≤ w.heap.size + 1; omega) _

end Go.Proofs.YtabfdaofikccmaaGreat
