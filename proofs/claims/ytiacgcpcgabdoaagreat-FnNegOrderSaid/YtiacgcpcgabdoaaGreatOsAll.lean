/- The model's order: (*spec.l4Order).geq and look. -/
import Derived.Test.YtiacgcpcgabdoaaGreatOrTab
import Derived.Test.YtiacgcpcgabdoaaGreatFmBk
import Derived.Test.YtiacgcpcgabdoaaGreatFmReach
import Derived.StillTailTactics
import Derived.IntWalk
import Derived.Test.YtiacgcpcgabdoaaGreatFmRootN
import Derived.Deep.Onto
import Derived.Test.YtiacgcpcgabdoaaGreatFmFits
import Derived.Test.YtiacgcpcgabdoaaGreatFmLaw
import Derived.Test.YtiacgcpcgabdoaaGreatOrAll
namespace Go.Proofs.YtiacgcpcgabdoaaGreat
section
open Go.RowKit
set_option linter.unusedVariables false
set_option linter.unusedSimpArgs false

/-- the table of answers -/
def RowK (base g n : Nat) (cs : List Int) (w : World) : Prop := w.ownsRow base 3 1 (.slice (some ⟨g, 0, none⟩) n n) n (cs.map (Value.int .i64))

theorem RowK.at_ {base g n x : Nat} {v : Int} {cs : List Int} {w : World} (h : RowK base g n cs w) (hx : cs[x]? = some v) : w.cell? ⟨g, x, none⟩ = some (.int .i64 v) ∧ w.frozen? ⟨g, x, none⟩ = false := by
  have hl : (cs.map (Value.int .i64)).length = n * 1 := h.1
  have hlt := get_lt hx
  rw [List.length_map] at hl
  refine ⟨?_, World.ownsRow.frozenAt h x⟩
  rw [World.ownsRow.cellAt h x (by omega), List.getElem?_map, hx]
  rfl

theorem RowK.put {base g n x : Nat} {v : Int} {cs : List Int} {w : World} (h : RowK base g n cs w) :
    RowK base g n (cs.set x v) (w.setCell ⟨g, x, none⟩ (.int .i64 v)) ∧ Only w (w.setCell ⟨g, x, none⟩ (.int .i64 v)) (fun b => b = g) := by
  have h2 := World.ownsRow.stored h x (.int .i64 v)
  rw [← List.map_set] at h2
  exact ⟨h2.1, Only.of_set _ rfl⟩

theorem RowK.below {base g n : Nat} {cs : List Int} {w w' : World} (h : RowK base g n cs w) (hb : Below w.heap.size w w') : RowK base g n cs w' :=
  own_only h (Only.of_below (F := fun _ => False) hb) (fun _ _ => id)

/-- the order of a book's nodes -/
structure Od (w : World) (base O B g n : Nat) (C : List Nd) (bs : List Nat) (vn vb : Value) (vs : List (Value × Value)) : Prop where
  c0 : w.cell? ⟨O, 0, none⟩ = some (.pointer (some ⟨B, 0, none⟩))
  c1 : w.cell? ⟨O, 1, none⟩ = some (.slice (some ⟨g, 0, none⟩) n n)
  bk : Bk base w B C bs vn vb vs (fun b => b = g)
  hO : O ≠ g
  hF : ¬ Foot B vn vb g

theorem Od.only {w w' : World} {base O B g n : Nat} {C : List Nd} {bs : List Nat} {vn vb : Value} {vs : List (Value × Value)} (h : Od w base O B g n C bs vn vb vs) (ho : Only w w' (fun b => b = g)) : Od w' base O B g n C bs vn vb vs := by
  have hO := block_of_cell h.c0
  exact ⟨(ho.cell hO h.hO).trans h.c0, (ho.cell hO h.hO).trans h.c1, h.bk.only ho (fun b hb e => h.hF (e ▸ hb)), h.hO, h.hF⟩

theorem Od.below {w w' : World} {base O B g n : Nat} {C : List Nd} {bs : List Nat} {vn vb : Value} {vs : List (Value × Value)} (h : Od w base O B g n C bs vn vb vs) (hb : Below w.heap.size w w') : Od w' base O B g n C bs vn vb vs := h.only (Only.of_below hb)

/-- what a question of pairs below a sum leaves -/
def Told (base g n : Nat) (C : List Nd) (cs : List Int) (s : Nat) (w w' : World) : Prop := ∃ cs', Rt C C.length cs' s ∧ Sm C.length cs cs' s ∧ RowK base g n cs' w' ∧ Only w w' (fun b => b = g)

theorem Told.trans {base g n s t : Nat} {C : List Nd} {cs : List Int} {w w1 w2 : World} (ht : t ≤ s) (h : Told base g n C cs s w w1) (k : ∀ cs', Rt C C.length cs' s → RowK base g n cs' w1 → Told base g n C cs' t w1 w2) : Told base g n C cs s w w2 := by
  obtain ⟨cs1, h1, h2, h3, h4⟩ := h
  obtain ⟨cs2, k1, k2, k3, k4⟩ := k cs1 h1 h3
  exact ⟨cs2, h1.behind ht k1 k2, h2.trans (k2.mono ht), k3, h4.trans k4 (fun _ _ h => h)⟩

theorem Told.only {base g n s : Nat} {C : List Nd} {cs : List Int} {w w1 : World} (h : Told base g n C cs s w w1) : Only w w1 (fun b => b = g) := by obtain ⟨_, _, _, _, h⟩ := h; exact h

/-- geq, for the pairs of a lesser sum -/
def GeqB (base O B g n : Nat) (C : List Nd) (bs : List Nat) (vn vb : Value) (vs : List (Value × Value)) (s : Nat) : Prop := ∀ (x y : Nat) (cs : List Int) (w : World), x + y < s → x < C.length → y < C.length → Od w base O B g n C bs vn vb vs → Rt C C.length cs (x + y + 1) → RowK base g n cs w →
  Calls Tryz.prog 68 #[.pointer (some ⟨O, 0, none⟩), .int .i64 x, .int .i64 y] w fun e w' => e = .returned (.bool (geF C x y)) ∧ Told base g n C cs (x + y + 1) w w'

theorem inner_len {w : World} {F : Nat → Prop} {v : Value} {l : List Nat} (h : InnerZ w F v l) : (l.length : Int) ≤ 9223372036854775807 := by obtain ⟨_, _, _, _, _, _, _, _, _, h, _⟩ := h; unfold upL at h; rw [List.length_map] at h; omega

theorem node_at {C : List Nd} {i : Nat} {nd : Nd} (h : C[i]? = some nd) : nodeD C i = nd := nodeD_at h

set_option maxRecDepth 100000 in
set_option maxHeartbeats 4000000 in
theorem look_calls (base O B g n : Nat) (C : List Nd) (bs : List Nat) (vn vb : Value) (vs : List (Value × Value)) (hC : Under C) (hCl : C.length ≤ 1000) (x y : Nat) (IH : GeqB base O B g n C bs vn vb vs (x + y)) (cs : List Int) (w : World) (hx : x < C.length) (hy : y < C.length)
    (h : Od w base O B g n C bs vn vb vs) (hr : Rt C C.length cs (x + y)) (hk : RowK base g n cs w) :
    Calls Tryz.prog 109 #[.pointer (some ⟨O, 0, none⟩), .int .i64 x, .int .i64 y] w fun e w' => e = .returned (.bool (geF C x y)) ∧ Told base g n C cs (x + y) w w' := by
  obtain ⟨nx, hnx⟩ := lt_get hx
  obtain ⟨ny, hny⟩ := lt_get hy
  have HNX := Lib.hid hnx
  have HNY := Lib.hid hny
  have HW : Hid (geF C x y = !(nx.2.any (fun r => geF C y r) || ny.1.any (fun l => geF C l x))) := Lib.hid (by rw [geF_eq C hC, node_at hnx, node_at hny])
  have HL1 : Hid (∀ r, r ∈ nx.2 → r < x) := Lib.hid (fun r hr => hC x nx hnx r (Or.inr hr))
  have HL2 : Hid (∀ l, l ∈ ny.1 → l < y) := Lib.hid (fun l hl => hC y ny hny l (Or.inl hl))
  have HIH := Lib.hid IH
  have HT0 : Hid (Told base g n C cs (x + y) w w) := Lib.hid ⟨cs, hr, Sm.refl _ _ _, hk, Only.refl _ _⟩
  have HO0 := Lib.hid h
  have xI : (x : Int) < C.length := by omega
  have yI : (y : Int) < C.length := by omega
  have x0 : (0 : Int) ≤ x := by omega
  have y0 : (0 : Int) ≤ y := by omega
  clear IH hC hnx hny h hr hk
  go_enter Tryz.func109, Tryz.ntmps109
  go_wp2
  go_loopw [7] (fun q wr => ∃ k : Nat, k ≤ nx.2.length ∧ q = .int .i64 k ∧ Hid ((nx.2.take k).any (fun r => geF C y r) = false) ∧ Hid (Told base g n C cs (x + y) w wr) ∧ Hid (Od wr base O B g n C bs vn vb vs)) (fun q _ => nx.2.length - (intOf q).toNat)
  case atStart => exact ⟨0, Nat.zero_le _, rfl, Lib.hid (by simp), HT0, HO0⟩
  case round =>
    obtain ⟨k, hk, rfl, hany, ht, ho⟩ := hrel
    clear HT0 HO0
    have k0 := ho.out.c0
    have kb := ho.out.bk.c0
    obtain ⟨gn, cn, ⟨a1, a2⟩, hvn, _, _, q2, _, in2⟩ := ho.out.bk.node HNX.out
    simp only at q2 in2
    rw [hvn] at kb
    have nl := inner_len in2
    by_cases hltk : k < nx.2.length
    · obtain ⟨r, hrr⟩ := lt_get hltk
      have hrx := HL1.out r (List.mem_of_getElem? hrr)
      obtain ⟨b, off, cc, hp, _, hcell⟩ := inner_cell in2 hrr
      subst hp
      obtain ⟨t, htt⟩ : ∃ t, geF C y r = t := ⟨_, rfl⟩
      have C1 := Lib.hid (show ∀ W, Below wr.heap.size wr W → Calls Tryz.prog 68 #[.pointer (some ⟨O, 0, none⟩), .int .i64 y, .int .i64 r] W fun e w' => e = .returned (.bool t) ∧ Hid (Told base g n C cs (x + y) w w' ∧ Od w' base O B g n C bs vn vb vs) from fun W hW => by
        obtain ⟨cs1, h1, h2, h3, h4⟩ := ht.out
        refine (HIH.out y r cs1 W (by omega) (by omega) (by omega) (ho.out.below hW) (h1.mono (by omega)) (h3.below hW)).mono fun e w' hp => ⟨by rw [← htt]; exact hp.1, Lib.hid ⟨?_, (ho.out.below hW).only hp.2.only⟩⟩
        obtain ⟨cs2, k1, k2, k3, k4⟩ := hp.2
        exact ⟨cs2, h1.behind (by omega) k1 k2, h2.trans (k2.mono (by omega)), k3, (h4.trans (Only.of_below hW) (fun _ _ h => h)).trans k4 (fun _ _ h => h)⟩)
      have HRR := Lib.hid hrr
      have HTT := Lib.hid htt
      have b0 : (0 : Int) ≤ k := by omega
      have b1 : (k : Int) < nx.2.length := by omega
      have r0 : (0 : Int) ≤ r := by omega
      clear hrr htt hvn in2
      cases t with
      | true =>
        have R : Hid (geF C x y = false) := Lib.hid (by
          rw [HW.out, any_at nx.2 (fun r => geF C y r) k r HRR.out HTT.out]
          simp)
        go_wp2_with fail
        refine (C1.out _ (Below.refl _ _)).mono ?_
        rintro e w2 ⟨rfl, hT⟩
        go_wp2_with fail
        go_ret
        exact ⟨ret_bool R.out.symm, hT.out.1⟩
      | false =>
        have R : Hid ((nx.2.take (k + 1)).any (fun r => geF C y r) = false) := Lib.hid (any_take_false nx.2 _ k r HRR.out hany.out HTT.out)
        go_wp2_with fail
        refine (C1.out _ (Below.refl _ _)).mono ?_
        rintro e w2 ⟨rfl, hT⟩
        have HT2 := Lib.hid hT.out.1
        have HO2 := Lib.hid hT.out.2
        clear hT
        go_wp2_with fail
        go_roundw
        case rel => exact ⟨k + 1, by omega, by go_num, R, HT2, HO2⟩
        case measure => simp [intOf]; omega
    · have HAN : Hid (nx.2.any (fun r => geF C y r) = false) := Lib.hid (by
        have := hany.out
        rwa [List.take_of_length_le (by omega)] at this)
      obtain ⟨b, off, cc, hp, _⟩ := in2
      subst hp
      clear hany hvn HL1
      obtain ⟨W1, hW1⟩ : ∃ W, W = wr := ⟨_, rfl⟩
      subst hW1
      go_wp2_with fail
      clear q2 kb k0
      go_loopw [8] (fun q wr => ∃ m : Nat, m ≤ ny.1.length ∧ q = .int .i64 m ∧ Hid ((ny.1.take m).any (fun l => geF C l x) = false) ∧ Hid (Told base g n C cs (x + y) w wr) ∧ Hid (Od wr base O B g n C bs vn vb vs)) (fun q _ => ny.1.length - (intOf q).toNat)
      case atStart => exact ⟨0, Nat.zero_le _, rfl, Lib.hid (by simp), ht, ho⟩
      case round =>
        obtain ⟨m, hm, rfl, hany, ht, ho⟩ := hrel
        have k0 := ho.out.c0
        have kb := ho.out.bk.c0
        obtain ⟨gn, cn, ⟨a1, a2⟩, hvn, _, q1, _, in1, _⟩ := ho.out.bk.node HNY.out
        simp only at q1 in1
        rw [hvn] at kb
        have nl := inner_len in1
        by_cases hltm : m < ny.1.length
        · obtain ⟨r, hrr⟩ := lt_get hltm
          have hrx := HL2.out r (List.mem_of_getElem? hrr)
          obtain ⟨b, off, cc, hp, _, hcell⟩ := inner_cell in1 hrr
          subst hp
          obtain ⟨t, htt⟩ : ∃ t, geF C r x = t := ⟨_, rfl⟩
          have C1 := Lib.hid (show ∀ W, Below wr.heap.size wr W → Calls Tryz.prog 68 #[.pointer (some ⟨O, 0, none⟩), .int .i64 r, .int .i64 x] W fun e w' => e = .returned (.bool t) ∧ Hid (Told base g n C cs (x + y) w w' ∧ Od w' base O B g n C bs vn vb vs) from fun W hW => by
            obtain ⟨cs1, h1, h2, h3, h4⟩ := ht.out
            refine (HIH.out r x cs1 W (by omega) (by omega) (by omega) (ho.out.below hW) (h1.mono (by omega)) (h3.below hW)).mono fun e w' hp => ⟨by rw [← htt]; exact hp.1, Lib.hid ⟨?_, (ho.out.below hW).only hp.2.only⟩⟩
            obtain ⟨cs2, k1, k2, k3, k4⟩ := hp.2
            exact ⟨cs2, h1.behind (by omega) k1 k2, h2.trans (k2.mono (by omega)), k3, (h4.trans (Only.of_below hW) (fun _ _ h => h)).trans k4 (fun _ _ h => h)⟩)
          have HRR := Lib.hid hrr
          have HTT := Lib.hid htt
          have b0 : (0 : Int) ≤ m := by omega
          have b1 : (m : Int) < ny.1.length := by omega
          have r0 : (0 : Int) ≤ r := by omega
          clear hrr htt hvn in1
          cases t with
          | true =>
            have R : Hid (geF C x y = false) := Lib.hid (by
              rw [HW.out, any_at ny.1 (fun l => geF C l x) m r HRR.out HTT.out, Bool.or_true]
              simp)
            go_wp2_with fail
            refine (C1.out _ (Below.refl _ _)).mono ?_
            rintro e w2 ⟨rfl, hT⟩
            go_wp2_with fail
            go_ret
            exact ⟨ret_bool R.out.symm, hT.out.1⟩
          | false =>
            have R : Hid ((ny.1.take (m + 1)).any (fun l => geF C l x) = false) := Lib.hid (any_take_false ny.1 _ m r HRR.out hany.out HTT.out)
            go_wp2_with fail
            refine (C1.out _ (Below.refl _ _)).mono ?_
            rintro e w2 ⟨rfl, hT⟩
            have HT2 := Lib.hid hT.out.1
            have HO2 := Lib.hid hT.out.2
            clear hT
            go_wp2_with fail
            go_roundw
            case rel => exact ⟨m + 1, by omega, by go_num, R, HT2, HO2⟩
            case measure => simp [intOf]; omega
        · have R : Hid (geF C x y = true) := Lib.hid (by
            have := hany.out
            rw [List.take_of_length_le (by omega)] at this
            rw [HW.out, HAN.out, this]
            rfl)
          obtain ⟨b, off, cc, hp, _⟩ := in1
          subst hp
          clear hany hvn
          go_wp2_with fail
          go_ret
          exact ⟨ret_bool R.out.symm, ht.out⟩

theorem geq_put {base O B g n x y p : Nat} {C : List Nd} {bs : List Nat} {vn vb : Value} {vs : List (Value × Value)} {cs : List Int} {w w2 : World} (h : Od w base O B g n C bs vn vb vs) (hr : Rt C C.length cs (x + y + 1)) (hk : RowK base g n cs w) (hx : x < C.length) (hy : y < C.length) (hp : x * C.length + y = p)
    (ht : Told base g n C (cs.set p 2) (x + y) (w.setCell ⟨g, p, none⟩ (.int .i64 2)) w2) :
    w2.cell? ⟨O, 1, none⟩ = some (.slice (some ⟨g, 0, none⟩) n n) ∧ w2.cell? ⟨g, p, none⟩ = some (.int .i64 2) ∧ w2.frozen? ⟨g, p, none⟩ = false ∧ Hid (geF C x y = false → Told base g n C cs (x + y + 1) w w2) ∧
      (w2.setCell ⟨g, p, none⟩ (.int .i64 1)).cell? ⟨O, 1, none⟩ = some (.slice (some ⟨g, 0, none⟩) n n) ∧ (w2.setCell ⟨g, p, none⟩ (.int .i64 1)).cell? ⟨g, p, none⟩ = some (.int .i64 1) ∧ Hid (geF C x y = true → Told base g n C cs (x + y + 1) w (w2.setCell ⟨g, p, none⟩ (.int .i64 1))) := by
  subst hp
  have ho1 := (hk.put (x := x * C.length + y) (v := 2)).2
  obtain ⟨cs2, h1, h2, h3, h4⟩ := ht
  have hd := hr.done hx hy rfl h1 h2
  obtain ⟨d1, d2, d3⟩ := hd
  obtain ⟨c0, f0⟩ := h3.at_ d3
  have o2 : Only w w2 (fun b => b = g) := ho1.trans h4 (fun _ _ h => h)
  obtain ⟨h3p, o3⟩ := h3.put (x := x * C.length + y) (v := 1)
  exact ⟨(h.only o2).c1, c0, f0, Lib.hid (fun e => ⟨cs2, (d2 e).1, (d2 e).2, h3, o2⟩), ((h.only o2).only o3).c1, World.cell?_setCell_same _ _ _ c0, Lib.hid (fun e => ⟨_, (d1 e).1, (d1 e).2, h3p, o2.trans o3 (fun _ _ h => h)⟩)⟩

set_option maxRecDepth 100000 in
set_option maxHeartbeats 4000000 in
theorem geq_step (base O B g n : Nat) (C : List Nd) (bs : List Nat) (vn vb : Value) (vs : List (Value × Value)) (hC : Under C) (hCl : C.length ≤ 1000) (x y : Nat) (IH : GeqB base O B g n C bs vn vb vs (x + y)) (cs : List Int) (w : World) (hx : x < C.length) (hy : y < C.length)
    (h : Od w base O B g n C bs vn vb vs) (hr : Rt C C.length cs (x + y + 1)) (hk : RowK base g n cs w) :
    Calls Tryz.prog 68 #[.pointer (some ⟨O, 0, none⟩), .int .i64 x, .int .i64 y] w fun e w' => e = .returned (.bool (geF C x y)) ∧ Told base g n C cs (x + y + 1) w w' := by
  have hn : n = C.length * C.length := by have := hk.1; rw [List.length_map, hr.1] at this; omega
  have hplt := place_lt hx hy
  obtain ⟨q, hq⟩ : ∃ q, x * C.length = q := ⟨_, rfl⟩
  have hqi : (x : Int) * (C.length : Int) = (q : Int) := by rw [← hq]; simp
  have hqb : q ≤ 1000000 := by rw [← hq]; exact Nat.le_trans (Nat.mul_le_mul (show x ≤ 1000 by omega) hCl) (by omega)
  obtain ⟨p, hp⟩ : ∃ p, q + y = p := ⟨_, rfl⟩
  have hpi : (q : Int) + (y : Int) = (p : Int) := by omega
  have hpp : x * C.length + y = p := by rw [hq, hp]
  obtain ⟨v, hv⟩ := lt_get (l := cs) (i := x * C.length + y) (by rw [hr.1]; exact hplt)
  have hent := hr.2 x y hx hy (by omega)
  rw [hv] at hent
  rw [hpp] at hv
  obtain ⟨c0, f0⟩ := hk.at_ hv
  have k0 := h.c0
  have k1 := h.c1
  have kb := h.bk.c0
  obtain ⟨nx, hnx⟩ := lt_get hx
  obtain ⟨gn, cn, _, hvn, _, _, _, _, _⟩ := h.bk.node hnx
  have HT0 : Hid (Told base g n C cs (x + y + 1) w w) := Lib.hid ⟨cs, hr, Sm.refl _ _ _, hk, Only.refl _ _⟩
  have hpn : (p : Int) < n := by rw [hn]; omega
  have hst := hr.start hx hy 2
  rw [hpp] at hst
  have hput := hk.put (x := p) (v := 2)
  have hdr : Below (w.setCell ⟨g, p, none⟩ (.int .i64 2)).heap.size (w.setCell ⟨g, p, none⟩ (.int .i64 2)) (w.setCell ⟨g, p, none⟩ (.int .i64 2)).drew := below_drewN (Below.refl _ _) 1
  have C1 := look_calls base O B g n C bs vn vb vs hC hCl x y IH (cs.set p 2) (w.setCell ⟨g, p, none⟩ (.int .i64 2)) hx hy (h.only hput.2) hst.1 hput.1
  have HF := Lib.hid fun w2 (ht : Told base g n C (cs.set p 2) (x + y) (w.setCell ⟨g, p, none⟩ (.int .i64 2)) w2) => geq_put h hr hk hx hy hpp ht
  rw [hvn] at kb
  obtain ⟨t, ht⟩ : ∃ t, geF C x y = t := ⟨_, rfl⟩
  have hgc : geC C x y = if t then 1 else 2 := by unfold geC; rw [ht]
  rw [ht] at C1 HF ⊢
  have C2 := Lib.hid C1
  have hp0 : (0 : Int) ≤ p := by omega
  have yI : (y : Int) ≤ 1000 := by omega
  have hv2 : v = (if t then 1 else 2) ∨ v = 0 := by
    rw [hgc] at hent
    rcases hent with e | e
    · right; injection e
    · left; injection e
  have hko : (w.setCell ⟨g, p, none⟩ (.int .i64 2)).cell? ⟨O, 1, none⟩ = some (.slice (some ⟨g, 0, none⟩) n n) := (h.only hput.2).c1
  clear hent hn hplt hq hp hpp hv h hr hk hst hput C1 IH hC hvn hnx ht hgc hdr
  rcases hv2 with e | e
  · have v0 : (v == 0) = false := by rw [e]; cases t <;> rfl
    have v1 : (v == 1) = t := by rw [e]; cases t <;> rfl
    clear e C2 HF
    go_enter Tryz.func68, Tryz.ntmps68
    go_wp2_with fail
    go_ret
    exact ⟨rfl, HT0.out⟩
  · subst e
    clear HT0
    go_enter Tryz.func68, Tryz.ntmps68
    go_wp2_with fail
    refine C2.out.mono ?_
    rintro e w2 ⟨rfl, hto⟩
    obtain ⟨d1, d2, d3, d4, d5, d6, d7⟩ := HF.out w2 hto
    clear hto
    cases t with
    | true =>
      have D := Lib.hid (d7.out rfl)
      go_wp2_with fail
      go_ret
      exact ⟨rfl, D.out⟩
    | false =>
      have D := Lib.hid (d4.out rfl)
      go_wp2_with fail
      go_ret
      exact ⟨rfl, D.out⟩

theorem geq_calls (base O B g n : Nat) (C : List Nd) (bs : List Nat) (vn vb : Value) (vs : List (Value × Value)) (hC : Under C) (hCl : C.length ≤ 1000) : ∀ s, GeqB base O B g n C bs vn vb vs s
  | 0 => fun x y cs w h => by omega
  | s + 1 => fun x y cs w hs hx hy h hr hk => by
    have IH := geq_calls base O B g n C bs vn vb vs hC hCl s
    exact geq_step base O B g n C bs vn vb vs hC hCl x y (fun x' y' cs' w' hs' hx' hy' h' hr' hk' => IH x' y' cs' w' (by omega) hx' hy' h' hr' hk') cs w hx hy h hr hk
end

section
open Go.RowKit
set_option linter.unusedVariables false
set_option linter.unusedSimpArgs false

set_option maxRecDepth 100000 in
set_option maxHeartbeats 2000000 in
theorem l4Of_calls (base B : Nat) (C : List Nd) (bs : List Nat) (vn vb : Value) (vs : List (Value × Value)) (w : World) (h : Bk base w B C bs vn vb vs (fun _ => False)) (h0 : 0 < C.length) (hl : C.length ≤ 1000) :
    Calls Tryz.prog 67 #[.pointer (some ⟨B, 0, none⟩)] w fun e w' => ∃ O g n, e = .returned (.pointer (some ⟨O, 0, none⟩)) ∧ Od w' base O B g n C bs vn vb vs ∧ RowK base g n (List.replicate (C.length * C.length) 0) w' ∧ Below w.heap.size w w' := by
  obtain ⟨i0, hi0, hz0, hz1, hz2⟩ := info_parts infoIntA
  obtain ⟨nx, hnx⟩ := lt_get h0
  obtain ⟨gn, cn, _, hvn, _, _, _, _, _⟩ := h.node hnx
  obtain ⟨n, hn⟩ : ∃ n, C.length * C.length = n := ⟨_, rfl⟩
  have hni : (C.length : Int) * (C.length : Int) = (n : Int) := by rw [← hn]; simp
  have hnb : n ≤ 1000000 := by rw [← hn]; exact Nat.le_trans (Nat.mul_le_mul hl hl) (by omega)
  have kb := h.c0
  have HK := Lib.hid h
  rw [hvn] at kb
  rw [hn]
  clear hn hvn hnx h
  go_enter Tryz.func67, Tryz.ntmps67
  go_wp2_with fail
  obtain ⟨w1, hm, hown, hg⟩ := run_make_full (P := Tryz.prog) w.drew base 43 3 i0 (.int .i64 0) 1 Tryz.underlying43 hi0 hz0 hz1 .i64 .i64 n (by rw [hz2]; omega) (by unfold maxLen; omega) (by have := HK.out.lt B (Or.inl rfl); show base ≤ w.heap.size; omega)
  have HOWN := Lib.hid hown
  have HG := Lib.hid hg
  have hz : w1.heap.size = w1.heap.size := rfl
  have hwn : IntKind.i64.wrap (n : Int) = (n : Int) := IntWalk.i64_in _ (by omega)
  clear hown hg hz
  have HB1 : Hid (Below w.heap.size w (w1.alloc (.cells #[.pointer (some ⟨B, 0, none⟩), .slice (some ⟨w.heap.size, 0, none⟩) n n] 59))) := Lib.hid (by
    have h1 : Below w.heap.size w w1 := (below_drewN (Below.refl w.heap.size w) 1).grown HG.out (Nat.le_refl _) (fun k hk => by cases hk)
    exact h1.alloc h1.size _)
  have HR : Hid (RowK base w.heap.size n (List.replicate n 0) (w1.alloc (.cells #[.pointer (some ⟨B, 0, none⟩), .slice (some ⟨w.heap.size, 0, none⟩) n n] 59))) := Lib.hid (by
    have e : (madeCells (Value.int .i64 0).cells (n * 1)).toList = (List.replicate n 0).map (Value.int .i64) := by
      rw [List.map_replicate, Nat.mul_one]
      exact made_one' _ n
    have h1 := HOWN.out
    rw [e] at h1
    exact World.ownsRow.alloc h1 _)
  have hs1 : w.heap.size < w1.heap.size := (World.ownsRow.lt HOWN.out _ rfl).2
  have HOD : Hid (Od (w1.alloc (.cells #[.pointer (some ⟨B, 0, none⟩), .slice (some ⟨w.heap.size, 0, none⟩) n n] 59)) base w1.heap.size B w.heap.size n C bs vn vb vs) := Lib.hid
    ⟨by go_simp, by go_simp, (HK.out.reX (Y := fun b => b = w.heap.size) (fun b hb e => by omega)).below HB1.out, by omega, fun hF => by have := (HK.out.lt _ hF).2; omega⟩
  clear HOWN HG
  go_region_with (fail)
  all_goals
    go_wp2_with fail
    go_ret
    exact ⟨w1.heap.size, w.heap.size, n, rfl, HOD.out, HR.out, HB1.out⟩

/-- two games in one book -/
def twoC (f g : List Nz) : List Nd := (addF (bkF f) (g.map downN)).1
def twoY (f g : List Nz) : Nat := (addF (bkF f) (g.map downN)).2.getD ((g.map downN).length - 1) 0
def geTwo (f g : List Nz) : Bool := geF (twoC f g) (rtF f) (twoY f g)

theorem two_added (f g : List Nz) (hf : StructZ f) (hg : StructZ g) : Added (bkF f) (g.map downN) (twoC f g) (addF (bkF f) (g.map downN)).2 := addF_added (bkF f) (bkF_added f hf).book (g.map downN) hg.up.2.under

theorem two_node (f g : List Nz) (hf : StructZ f) (hg : StructZ g) : ∀ i nd, (f.map downN)[i]? = some nd → (twoC f g)[(addF [] (f.map downN)).2.getD i 0]? = some (movd (fun x => (addF [] (f.map downN)).2.getD x 0) nd) := fun i nd h =>
  get_pre (two_added f g hf hg).pre ((bkF_added f hf).node i nd h)

theorem geTwo_left (f g : List Nz) (hf : StructZ f) (hg : StructZ g) (h0 : 0 < f.length) (h1 : 0 < g.length) (w : Bool) (hw : winF (f.map downN) (g.map downN) (f.length - 1) (g.length - 1) false = w) : geTwo f g = !w := by
  have e1 : (f.map downN).length = f.length := by simp
  have e2 : (g.map downN).length = g.length := by simp
  have h := win_ge (f.map downN) (g.map downN) (twoC f g) (fun i => (addF [] (f.map downN)).2.getD i 0) (fun i => (addF (bkF f) (g.map downN)).2.getD i 0) hf.up.2.under hg.up.2.under (two_added f g hf hg).book.struct.under (two_node f g hf hg) (two_added f g hf hg).node
    (f.length - 1 + (g.length - 1) + 1) (f.length - 1) (g.length - 1) (by omega) (by omega) (by omega)
  rw [← hw, h.1]
  unfold geTwo rtF twoY
  rw [e1, e2]

theorem geTwo_right (f g : List Nz) (hf : StructZ f) (hg : StructZ g) (h0 : 0 < f.length) (h1 : 0 < g.length) (w : Bool) (hw : winF (f.map downN) (g.map downN) (f.length - 1) (g.length - 1) true = w) : geTwo g f = !w := by
  have e1 : (f.map downN).length = f.length := by simp
  have e2 : (g.map downN).length = g.length := by simp
  have h := win_ge (f.map downN) (g.map downN) (twoC g f) (fun i => (addF (bkF g) (f.map downN)).2.getD i 0) (fun i => (addF [] (g.map downN)).2.getD i 0) hf.up.2.under hg.up.2.under (two_added g f hg hf).book.struct.under (two_added g f hg hf).node (two_node g f hg hf)
    (f.length - 1 + (g.length - 1) + 1) (f.length - 1) (g.length - 1) (by omega) (by omega) (by omega)
  rw [← hw, h.2]
  unfold geTwo rtF twoY
  rw [e1, e2]

theorem two_len (f g : List Nz) : (twoC f g).length ≤ f.length + g.length := by
  have h1 := bkF_len f
  have h2 := (addF_len (bkF f) (g.map downN)).2
  unfold twoC
  simp at h2
  omega

theorem two_places (f g : List Nz) (hf : StructZ f) (hg : StructZ g) (h0 : 0 < f.length) (h1 : 0 < g.length) : rtF f < (twoC f g).length ∧ twoY f g < (twoC f g).length := by
  have e2 : (g.map downN).length = g.length := by simp
  constructor
  · obtain ⟨x, hx⟩ := lt_get (rtF_lt f hf h0)
    exact get_lt (get_pre (two_added f g hf hg).pre hx)
  · obtain ⟨nl, hnl⟩ := lt_get (l := g.map downN) (i := (g.map downN).length - 1) (by omega)
    exact get_lt ((two_added f g hf hg).node _ nl hnl)

set_option maxRecDepth 100000 in
set_option maxHeartbeats 2000000 in
theorem l4Geq_calls (va vb : Value) (f g : List Nz) (r : Bool) (hr : Hid (geTwo f g = r)) (w : World) (lo hi lo' hi' : Nat) (hh : hi ≤ w.heap.size) (hh' : hi' ≤ w.heap.size) (hva : NodesZ w lo hi va f) (hvb : NodesZ w lo' hi' vb g) (hf1 : FitsZ f) (hf2 : StructZ f) (hg1 : FitsZ g) (hg2 : StructZ g) :
    Calls Tryz.prog 33 #[.agg #[va], .agg #[vb]] w fun e w' => e = .returned (.bool r) ∧ Below w.heap.size w w' := by
  go_enter Tryz.func33, Tryz.ntmps33
  have k1 : ((w.alloc (.cells #[va] 26)).alloc (.cells #[vb] 26)).cell? ⟨w.heap.size, 0, none⟩ = some va := by go_simp
  have k2 : ((w.alloc (.cells #[va] 26)).alloc (.cells #[vb] 26)).cell? ⟨w.heap.size + 1, 0, none⟩ = some vb := by go_simp
  have hb : Below w.heap.size w ((w.alloc (.cells #[va] 26)).alloc (.cells #[vb] 26)) := ((Below.refl _ _).alloc (Nat.le_refl _) _).alloc (by simp) _
  go_upto_region 1 with fail
  generalize ((w.alloc (.cells #[va] 26)).alloc (.cells #[vb] 26)) = W at k1 k2 hb
  have hwz := hb.size
  have HB := Lib.hid hb
  have CR := Lib.hid fun X hX => rootNil_calls va f W lo hi (by omega) (hva.below hb hh) hf1 hf2 X hX
  have HVB := Lib.hid fun X (hX : Below W.heap.size W X) => (hvb.below hb hh').below hX (by omega)
  have hba : Below W.heap.size W (W.alloc (.cells #[.slice none 0 0, .slice none 0 0] 56)) := (Below.refl _ _).alloc (Nat.le_refl _) _
  have d1 := (bcell hba _ _ (block_of_cell k1)).trans k1
  have l1 := block_of_cell k1
  have l2 := block_of_cell k2
  clear hva hvb hb
  go_wp2_with fail
  refine (CR.out _ (Below.refl _ _)).mono ?_
  rintro e w4 ⟨rfl, ⟨vn, vbb, vs, hK⟩, hb4⟩
  have d2 := (bcell hb4 _ _ l2).trans k2
  have HB4 := Lib.hid hb4
  have hs4 := hb4.size
  have HK4 := Lib.hid hK
  have HKL := Lib.hid hK.lt
  have e2 : (g.map downN).length = g.length := by simp
  have hbk := (bkF_added f hf2).book
  have hlen : (bkF f).length + (g.map downN).length ≤ 90000 := by have := bkF_len f; have := hf1.2.1; have := hg1.2.1; rw [e2]; omega
  have CR2 := Lib.hid (root_calls W.heap.size W.heap.size (bkF f) vn vbb vs vb (g.map downN) w4 lo' hi' (by omega) hK hbk (by rw [hg2.up.1]; exact HVB.out w4 hb4) hg2.up.2.under (by rw [e2]; exact hg1.1) hlen (downN_small hg1))
  have HRD : Hid (∀ w5, Only w4 w5 (Foot W.heap.size vn vbb) → Below W.heap.size W w5) := Lib.hid (fun w5 ho => hb4.trans (ho.below hs4 (fun x hx => (HKL.out x hx).1)))
  clear hK hb4 d1 hba CR hlen hbk
  go_wp2_with fail
  refine CR2.out.mono ?_
  rintro e w5 ⟨rfl, vn5, vb5, vs5, hK5, ho5, _⟩
  have HB5 := Lib.hid (HRD.out w5 ho5)
  have hpl := two_places f g hf2 hg2 hf1.1 hg1.1
  have htl : (twoC f g).length ≤ 1000 := by have := two_len f g; have := hf1.2.1; have := hg1.2.1; omega
  have hund : Under (twoC f g) := (two_added f g hf2 hg2).book.struct.under
  have CO := Lib.hid fun X (hX : Below w5.heap.size w5 X) => l4Of_calls W.heap.size W.heap.size (twoC f g) (bornsOf (twoC f g)) vn5 vb5 vs5 X (hK5.below hX) (by omega) htl
  have hs5 := HB5.out.size
  have CG := Lib.hid fun X O gg n (hO : Od X W.heap.size O W.heap.size gg n (twoC f g) (bornsOf (twoC f g)) vn5 vb5 vs5) (hrow : RowK W.heap.size gg n (List.replicate ((twoC f g).length * (twoC f g).length) 0) X) (hX : Below W.heap.size W X) => show Calls Tryz.prog 68 #[.pointer (some ⟨O, 0, none⟩), .int .i64 (rtF f : Nat), .int .i64 (twoY f g : Nat)] X fun e w' => e = .returned (.bool r) ∧ Below w.heap.size w w' from by
    refine (geq_calls W.heap.size O W.heap.size gg n (twoC f g) (bornsOf (twoC f g)) vn5 vb5 vs5 hund htl (rtF f + twoY f g + 1) (rtF f) (twoY f g) (List.replicate ((twoC f g).length * (twoC f g).length) 0) X (by omega) hpl.1 hpl.2 hO (Rt.zero _ _ _) hrow).mono ?_
    rintro e w' ⟨he, ht⟩
    refine ⟨by rw [he]; unfold geTwo at hr; rw [hr.out], HB.out.trans ((hX.trans (ht.only.below hX.size (fun b e => ?_))).mono hwz)⟩
    have hlt : W.heap.size ≤ gg := (World.ownsRow.lt hrow gg rfl).1
    omega
  have eY : (addF (bkF f) (List.map downN g)).2.getD ((List.map downN g).length - 1) 0 = twoY f g := rfl
  rw [eY]
  clear hK5 ho5 CR2 HRD HKL HK4 hpl htl hund eY
  go_wp2_with fail
  refine (CO.out _ (Below.refl _ _)).mono ?_
  rintro e w6 ⟨O, gg, n, rfl, hO6, hr6, hb6⟩
  have CG2 := Lib.hid (CG.out w6 O gg n hO6 hr6 (HB5.out.trans (hb6.mono hs5)))
  clear hO6 hr6 hb6 CG CO
  go_wp2_with fail
  refine CG2.out.mono ?_
  rintro e w7 ⟨rfl, hb7⟩
  have HB7 := Lib.hid hb7
  clear hb7
  go_wp2_with fail
  go_ret
  exact ⟨rfl, HB7.out⟩
end

section
open Go.RowKit
set_option linter.unusedVariables false
set_option linter.unusedSimpArgs false

theorem goodS_res (v : Value) (f : List Nz) (r : Bool) (hr : Hid (goodB f = r)) (w : World) (lo hi : Nat) (hh : hi ≤ w.heap.size) (hv : NodesZ w lo hi v f) :
    Calls Tryz.prog 32 #[.agg #[v]] w fun e w' => e = .returned (.bool r) ∧ Below w.heap.size w w' := by
  rw [← hr.out]
  exact goodS_calls v f w lo hi hh hv
end

section
open Go.RowKit
set_option linter.unusedVariables false
set_option linter.unusedSimpArgs false

theorem ge_left (f g : List Nz) (hf : goodB f = true) (hg : goodB g = true) : geTwo f g = !diffF f g false := by
  obtain ⟨hf1, hf2, _⟩ := (goodB_iff f).1 hf
  obtain ⟨hg1, hg2, _⟩ := (goodB_iff g).1 hg
  exact geTwo_left f g hf2 hg2 hf1.1 hg1.1 _ rfl

theorem ge_right (f g : List Nz) (hf : goodB f = true) (hg : goodB g = true) : geTwo g f = !diffF f g true := by
  obtain ⟨hf1, hf2, _⟩ := (goodB_iff f).1 hf
  obtain ⟨hg1, hg2, _⟩ := (goodB_iff g).1 hg
  exact geTwo_right f g hf2 hg2 hf1.1 hg1.1 _ rfl

theorem geqS_calls (va vb : Value) (f g : List Nz) (r : Bool) (hf : goodB f = true) (hg : goodB g = true) (hr : Hid (geTwo f g = r)) (w : World) (lo hi lo' hi' : Nat) (hh : hi ≤ w.heap.size) (hh' : hi' ≤ w.heap.size) (hva : NodesZ w lo hi va f) (hvb : NodesZ w lo' hi' vb g) :
    Calls Tryz.prog 33 #[.agg #[va], .agg #[vb]] w fun e w' => e = .returned (.bool r) ∧ Below w.heap.size w w' := by
  obtain ⟨hf1, hf2, _⟩ := (goodB_iff f).1 hf
  obtain ⟨hg1, hg2, _⟩ := (goodB_iff g).1 hg
  exact l4Geq_calls va vb f g r hr w lo hi lo' hi' hh hh' hva hvb hf1 hf2 hg1 hg2
end

section
open Go.RowKit
set_option linter.unusedVariables false
set_option linter.unusedSimpArgs false

set_option maxHeartbeats 1000000 in
theorem atLeastS_calls (va vb : Value) (f g : List Nz) (a ok : Bool) (hok : Hid ((goodB f && goodB g) = ok)) (ha : Hid ((goodB f && goodB g && !diffF f g false) = a)) (w : World) (lo hi lo' hi' : Nat) (hh : hi ≤ w.heap.size) (hh' : hi' ≤ w.heap.size) (hva : NodesZ w lo hi va f) (hvb : NodesZ w lo' hi' vb g) :
    Calls Tryz.prog 12 #[.agg #[va], .agg #[vb]] w fun e w' => e = .returned (.tuple #[.bool a, .bool ok]) ∧ Below w.heap.size w w' := by
  have HB0 := Lib.hid fun o o' => show Below w.heap.size w ((w.alloc o).alloc o') from ((Below.refl _ _).alloc (Nat.le_refl _) _).alloc (by simp) _
  obtain ⟨r1, h1⟩ : ∃ r, goodB f = r := ⟨_, rfl⟩
  obtain ⟨r2, h2⟩ : ∃ r, goodB g = r := ⟨_, rfl⟩
  have CA := Lib.hid fun (W : World) (hW : Below w.heap.size w W) => goodS_res va f r1 (Lib.hid h1) W lo hi (Nat.le_trans hh hW.size) (hva.below hW hh)
  have CB := Lib.hid fun (W : World) (hW : Below w.heap.size w W) => goodS_res vb g r2 (Lib.hid h2) W lo' hi' (Nat.le_trans hh' hW.size) (hvb.below hW hh')
  have CQ : Hid (r1 = true → r2 = true → ∀ W : World, Below w.heap.size w W → Calls Tryz.prog 33 #[.agg #[va], .agg #[vb]] W fun e w' => e = .returned (.bool a) ∧ Below W.heap.size W w') := Lib.hid (fun e1 e2 W hW => by
    have hf := h1.trans e1
    have hg := h2.trans e2
    exact geqS_calls va vb f g a hf hg (Lib.hid (by rw [← ha.out, hf, hg]; rw [ge_left f g hf hg]; simp)) W lo hi lo' hi' (Nat.le_trans hh hW.size) (Nat.le_trans hh' hW.size) (hva.below hW hh) (hvb.below hW hh'))
  have HOK : Hid ((r1 && r2) = ok) := Lib.hid (by rw [← h1, ← h2]; exact hok.out)
  have HA : Hid ((r1 && r2) = false → a = false) := Lib.hid (fun h => by rw [← ha.out, h1, h2, h]; rfl)
  clear hva hvb h1 h2 hok ha
  go_enter Tryz.func12, Tryz.ntmps12
  go_wp2_with fail
  refine (CA.out _ (HB0.out _ _)).mono ?_
  rintro e w4 ⟨rfl, hb4⟩
  have k1 : w4.cell? ⟨w.heap.size, 0, none⟩ = some va := (bcell hb4 _ _ (by simp; omega)).trans (by go_simp)
  have k2 : w4.cell? ⟨w.heap.size + 1, 0, none⟩ = some vb := (bcell hb4 _ _ (by simp)).trans (by go_simp)
  have l1 := block_of_cell k1
  have l2 := block_of_cell k2
  have HB4 := Lib.hid (Below.trans (HB0.out _ _) (hb4.mono (by simp; omega)))
  clear hb4
  cases r1 with
  | false =>
    obtain rfl : ok = false := by rw [← HOK.out]; rfl
    obtain rfl : a = false := HA.out rfl
    clear CA CB CQ HOK HA
    go_wp2_with fail
    exact bodyPost_ret (v := .tuple #[.bool false, .bool false]) (by simp [results, Tryz.results12, go_sem]) rfl ⟨rfl, HB4.out⟩
  | true =>
    go_wp2_with fail
    refine (CB.out _ HB4.out).mono ?_
    rintro e w5 ⟨rfl, hb5⟩
    have k1 := (bcell hb5 _ _ l1).trans k1
    have k2 := (bcell hb5 _ _ l2).trans k2
    have HB5 := Lib.hid (HB4.out.trans (hb5.mono HB4.out.size))
    clear hb5
    cases r2 with
    | false =>
      obtain rfl : ok = false := by rw [← HOK.out]; rfl
      obtain rfl : a = false := HA.out rfl
      clear CA CB CQ HOK HA
      go_wp2_with fail
      exact bodyPost_ret (v := .tuple #[.bool false, .bool false]) (by simp [results, Tryz.results12, go_sem]) rfl ⟨rfl, HB5.out⟩
    | true =>
      obtain rfl : ok = true := by rw [← HOK.out]; rfl
      have CQ2 := Lib.hid (CQ.out (by first | trivial | rfl) (by first | trivial | rfl))
      clear CA CB CQ HOK HA
      go_wp2_with fail
      refine (CQ2.out _ HB5.out).mono ?_
      rintro e w6 ⟨rfl, hb6⟩
      have HB6 := Lib.hid (HB5.out.trans (hb6.mono HB5.out.size))
      clear hb6
      go_wp2_with fail
      exact bodyPost_ret (v := .tuple #[.bool a, .bool true]) (by simp [results, Tryz.results12, go_sem]) rfl ⟨rfl, HB6.out⟩
end

end Go.Proofs.YtiacgcpcgabdoaaGreat
