/- The model's order: (*spec.l4Order).geq and look. -/
import Derived.Test.YtiacgcpcgabdoaaOrTab
import Derived.Test.YtiacgcpcgabdoaaFmBk
import Derived.Test.YtiacgcpcgabdoaaFmReach
import Derived.StillTailTactics
import Derived.IntWalk
namespace Go.Proofs.Ytiacgcpcgabdoaa
open Go.RowKit
set_option linter.unusedVariables false
set_option linter.unusedSimpArgs false

/-- the table of answers -/
def RowK (base g n : Nat) (cs : List Int) (w : World) : Prop := w.ownsRow base 3 1 (.slice (some ⟨g, 0, none⟩) n n) n (cs.map (Value.int .i64))

theorem RowK.at_ {base g n x : Nat} {v : Int} {cs : List Int} {w : World} (h : RowK base g n cs w) (hx : cs[x]? = some v) : w.cell? ⟨g, x, none⟩ = some (.int .i64 v) ∧ w.frozen? ⟨g, x, none⟩ = false := by
  have hl : (cs.map (Value.int .i64)).length = n * 1 := h.1
  have hlt := get_lt hx
  rw [List.length_map] at hl
  refine ⟨?_, World.ownsRow.frozenAt h x⟩
  rw [World.ownsRow.cellAt h x (by omega), List.getElem?_map, hx]
  rfl

theorem RowK.put {base g n x : Nat} {v : Int} {cs : List Int} {w : World} (h : RowK base g n cs w) :
    RowK base g n (cs.set x v) (w.setCell ⟨g, x, none⟩ (.int .i64 v)) ∧ Only w (w.setCell ⟨g, x, none⟩ (.int .i64 v)) (fun b => b = g) := by
  have h2 := World.ownsRow.stored h x (.int .i64 v)
  rw [← List.map_set] at h2
  exact ⟨h2.1, Only.of_set _ rfl⟩

theorem RowK.below {base g n : Nat} {cs : List Int} {w w' : World} (h : RowK base g n cs w) (hb : Below w.heap.size w w') : RowK base g n cs w' :=
  own_only h (Only.of_below (F := fun _ => False) hb) (fun _ _ => id)

/-- the order of a book's nodes -/
structure Od (w : World) (base O B g n : Nat) (C : List Nd) (bs : List Nat) (vn vb : Value) (vs : List (Value × Value)) : Prop where
  c0 : w.cell? ⟨O, 0, none⟩ = some (.pointer (some ⟨B, 0, none⟩))
  c1 : w.cell? ⟨O, 1, none⟩ = some (.slice (some ⟨g, 0, none⟩) n n)
  bk : Bk base w B C bs vn vb vs (fun b => b = g)
  hO : O ≠ g
  hF : ¬ Foot B vn vb g

theorem Od.only {w w' : World} {base O B g n : Nat} {C : List Nd} {bs : List Nat} {vn vb : Value} {vs : List (Value × Value)} (h : Od w base O B g n C bs vn vb vs) (ho : Only w w' (fun b => b = g)) : Od w' base O B g n C bs vn vb vs := by
  have hO := block_of_cell h.c0
  exact ⟨(ho.cell hO h.hO).trans h.c0, (ho.cell hO h.hO).trans h.c1, h.bk.only ho (fun b hb e => h.hF (e ▸ hb)), h.hO, h.hF⟩

theorem Od.below {w w' : World} {base O B g n : Nat} {C : List Nd} {bs : List Nat} {vn vb : Value} {vs : List (Value × Value)} (h : Od w base O B g n C bs vn vb vs) (hb : Below w.heap.size w w') : Od w' base O B g n C bs vn vb vs := h.only (Only.of_below hb)

/-- what a question of pairs below a sum leaves -/
def Told (base g n : Nat) (C : List Nd) (cs : List Int) (s : Nat) (w w' : World) : Prop := ∃ cs', Rt C C.length cs' s ∧ Sm C.length cs cs' s ∧ RowK base g n cs' w' ∧ Only w w' (fun b => b = g)

theorem Told.trans {base g n s t : Nat} {C : List Nd} {cs : List Int} {w w1 w2 : World} (ht : t ≤ s) (h : Told base g n C cs s w w1) (k : ∀ cs', Rt C C.length cs' s → RowK base g n cs' w1 → Told base g n C cs' t w1 w2) : Told base g n C cs s w w2 := by
  obtain ⟨cs1, h1, h2, h3, h4⟩ := h
  obtain ⟨cs2, k1, k2, k3, k4⟩ := k cs1 h1 h3
  exact ⟨cs2, h1.behind ht k1 k2, h2.trans (k2.mono ht), k3, h4.trans k4 (fun _ _ h => h)⟩

theorem Told.only {base g n s : Nat} {C : List Nd} {cs : List Int} {w w1 : World} (h : Told base g n C cs s w w1) : Only w w1 (fun b => b = g) := by obtain ⟨_, _, _, _, h⟩ := h; exact h

/-- geq, for the pairs of a lesser sum -/
def GeqB (base O B g n : Nat) (C : List Nd) (bs : List Nat) (vn vb : Value) (vs : List (Value × Value)) (s : Nat) : Prop := ∀ (x y : Nat) (cs : List Int) (w : World), x + y < s → x < C.length → y < C.length → Od w base O B g n C bs vn vb vs → Rt C C.length cs (x + y + 1) → RowK base g n cs w →
  Calls Try.prog 65 #[.pointer (some ⟨O, 0, none⟩), .int .i64 x, .int .i64 y] w fun e w' => e = .returned (.bool (geF C x y)) ∧ Told base g n C cs (x + y + 1) w w'

theorem inner_len {w : World} {F : Nat → Prop} {v : Value} {l : List Nat} (h : InnerZ w F v l) : (l.length : Int) ≤ 9223372036854775807 := by obtain ⟨_, _, _, _, _, _, _, _, _, h, _⟩ := h; unfold upL at h; rw [List.length_map] at h; omega

theorem node_at {C : List Nd} {i : Nat} {nd : Nd} (h : C[i]? = some nd) : nodeD C i = nd := nodeD_at h

set_option maxRecDepth 100000 in
set_option maxHeartbeats 4000000 in
theorem look_calls (base O B g n : Nat) (C : List Nd) (bs : List Nat) (vn vb : Value) (vs : List (Value × Value)) (hC : Under C) (hCl : C.length ≤ 1000) (x y : Nat) (IH : GeqB base O B g n C bs vn vb vs (x + y)) (cs : List Int) (w : World) (hx : x < C.length) (hy : y < C.length)
    (h : Od w base O B g n C bs vn vb vs) (hr : Rt C C.length cs (x + y)) (hk : RowK base g n cs w) :
    Calls Try.prog 93 #[.pointer (some ⟨O, 0, none⟩), .int .i64 x, .int .i64 y] w fun e w' => e = .returned (.bool (geF C x y)) ∧ Told base g n C cs (x + y) w w' := by
  obtain ⟨nx, hnx⟩ := lt_get hx
  obtain ⟨ny, hny⟩ := lt_get hy
  have HNX := Lib.hid hnx
  have HNY := Lib.hid hny
  have HW : Hid (geF C x y = !(nx.2.any (fun r => geF C y r) || ny.1.any (fun l => geF C l x))) := Lib.hid (by rw [geF_eq C hC, node_at hnx, node_at hny])
  have HL1 : Hid (∀ r, r ∈ nx.2 → r < x) := Lib.hid (fun r hr => hC x nx hnx r (Or.inr hr))
  have HL2 : Hid (∀ l, l ∈ ny.1 → l < y) := Lib.hid (fun l hl => hC y ny hny l (Or.inl hl))
  have HIH := Lib.hid IH
  have HT0 : Hid (Told base g n C cs (x + y) w w) := Lib.hid ⟨cs, hr, Sm.refl _ _ _, hk, Only.refl _ _⟩
  have HO0 := Lib.hid h
  have xI : (x : Int) < C.length := by omega
  have yI : (y : Int) < C.length := by omega
  have x0 : (0 : Int) ≤ x := by omega
  have y0 : (0 : Int) ≤ y := by omega
  clear IH hC hnx hny h hr hk
  go_enter Try.func93, Try.ntmps93
  go_wp2
  go_loopw [7] (fun q wr => ∃ k : Nat, k ≤ nx.2.length ∧ q = .int .i64 k ∧ Hid ((nx.2.take k).any (fun r => geF C y r) = false) ∧ Hid (Told base g n C cs (x + y) w wr) ∧ Hid (Od wr base O B g n C bs vn vb vs)) (fun q _ => nx.2.length - (intOf q).toNat)
  case atStart => exact ⟨0, Nat.zero_le _, rfl, Lib.hid (by simp), HT0, HO0⟩
  case round =>
    obtain ⟨k, hk, rfl, hany, ht, ho⟩ := hrel
    clear HT0 HO0
    have k0 := ho.out.c0
    have kb := ho.out.bk.c0
    obtain ⟨gn, cn, ⟨a1, a2⟩, hvn, _, _, q2, _, in2⟩ := ho.out.bk.node HNX.out
    simp only at q2 in2
    rw [hvn] at kb
    have nl := inner_len in2
    by_cases hltk : k < nx.2.length
    · obtain ⟨r, hrr⟩ := lt_get hltk
      have hrx := HL1.out r (List.mem_of_getElem? hrr)
      obtain ⟨b, off, cc, hp, _, hcell⟩ := inner_cell in2 hrr
      subst hp
      obtain ⟨t, htt⟩ : ∃ t, geF C y r = t := ⟨_, rfl⟩
      have C1 := Lib.hid (show ∀ W, Below wr.heap.size wr W → Calls Try.prog 65 #[.pointer (some ⟨O, 0, none⟩), .int .i64 y, .int .i64 r] W fun e w' => e = .returned (.bool t) ∧ Hid (Told base g n C cs (x + y) w w' ∧ Od w' base O B g n C bs vn vb vs) from fun W hW => by
        obtain ⟨cs1, h1, h2, h3, h4⟩ := ht.out
        refine (HIH.out y r cs1 W (by omega) (by omega) (by omega) (ho.out.below hW) (h1.mono (by omega)) (h3.below hW)).mono fun e w' hp => ⟨by rw [← htt]; exact hp.1, Lib.hid ⟨?_, (ho.out.below hW).only hp.2.only⟩⟩
        obtain ⟨cs2, k1, k2, k3, k4⟩ := hp.2
        exact ⟨cs2, h1.behind (by omega) k1 k2, h2.trans (k2.mono (by omega)), k3, (h4.trans (Only.of_below hW) (fun _ _ h => h)).trans k4 (fun _ _ h => h)⟩)
      have HRR := Lib.hid hrr
      have HTT := Lib.hid htt
      have b0 : (0 : Int) ≤ k := by omega
      have b1 : (k : Int) < nx.2.length := by omega
      have r0 : (0 : Int) ≤ r := by omega
      clear hrr htt hvn in2
      cases t with
      | true =>
        have R : Hid (geF C x y = false) := Lib.hid (by
          rw [HW.out, any_at nx.2 (fun r => geF C y r) k r HRR.out HTT.out]
          simp)
        go_wp2_with fail
        refine (C1.out _ (Below.refl _ _)).mono ?_
        rintro e w2 ⟨rfl, hT⟩
        go_wp2_with fail
        go_ret
        exact ⟨ret_bool R.out.symm, hT.out.1⟩
      | false =>
        have R : Hid ((nx.2.take (k + 1)).any (fun r => geF C y r) = false) := Lib.hid (any_take_false nx.2 _ k r HRR.out hany.out HTT.out)
        go_wp2_with fail
        refine (C1.out _ (Below.refl _ _)).mono ?_
        rintro e w2 ⟨rfl, hT⟩
        have HT2 := Lib.hid hT.out.1
        have HO2 := Lib.hid hT.out.2
        clear hT
        go_wp2_with fail
        go_roundw
        case rel => exact ⟨k + 1, by omega, by go_num, R, HT2, HO2⟩
        case measure => simp [intOf]; omega
    · have HAN : Hid (nx.2.any (fun r => geF C y r) = false) := Lib.hid (by
        have := hany.out
        rwa [List.take_of_length_le (by omega)] at this)
      obtain ⟨b, off, cc, hp, _⟩ := in2
      subst hp
      clear hany hvn HL1
      obtain ⟨W1, hW1⟩ : ∃ W, W = wr := ⟨_, rfl⟩
      subst hW1
      go_wp2_with fail
      clear q2 kb k0
      go_loopw [8] (fun q wr => ∃ m : Nat, m ≤ ny.1.length ∧ q = .int .i64 m ∧ Hid ((ny.1.take m).any (fun l => geF C l x) = false) ∧ Hid (Told base g n C cs (x + y) w wr) ∧ Hid (Od wr base O B g n C bs vn vb vs)) (fun q _ => ny.1.length - (intOf q).toNat)
      case atStart => exact ⟨0, Nat.zero_le _, rfl, Lib.hid (by simp), ht, ho⟩
      case round =>
        obtain ⟨m, hm, rfl, hany, ht, ho⟩ := hrel
        have k0 := ho.out.c0
        have kb := ho.out.bk.c0
        obtain ⟨gn, cn, ⟨a1, a2⟩, hvn, _, q1, _, in1, _⟩ := ho.out.bk.node HNY.out
        simp only at q1 in1
        rw [hvn] at kb
        have nl := inner_len in1
        by_cases hltm : m < ny.1.length
        · obtain ⟨r, hrr⟩ := lt_get hltm
          have hrx := HL2.out r (List.mem_of_getElem? hrr)
          obtain ⟨b, off, cc, hp, _, hcell⟩ := inner_cell in1 hrr
          subst hp
          obtain ⟨t, htt⟩ : ∃ t, geF C r x = t := ⟨_, rfl⟩
          have C1 := Lib.hid (show ∀ W, Below wr.heap.size wr W → Calls Try.prog 65 #[.pointer (some ⟨O, 0, none⟩), .int .i64 r, .int .i64 x] W fun e w' => e = .returned (.bool t) ∧ Hid (Told base g n C cs (x + y) w w' ∧ Od w' base O B g n C bs vn vb vs) from fun W hW => by
            obtain ⟨cs1, h1, h2, h3, h4⟩ := ht.out
            refine (HIH.out r x cs1 W (by omega) (by omega) (by omega) (ho.out.below hW) (h1.mono (by omega)) (h3.below hW)).mono fun e w' hp => ⟨by rw [← htt]; exact hp.1, Lib.hid ⟨?_, (ho.out.below hW).only hp.2.only⟩⟩
            obtain ⟨cs2, k1, k2, k3, k4⟩ := hp.2
            exact ⟨cs2, h1.behind (by omega) k1 k2, h2.trans (k2.mono (by omega)), k3, (h4.trans (Only.of_below hW) (fun _ _ h => h)).trans k4 (fun _ _ h => h)⟩)
          have HRR := Lib.hid hrr
          have HTT := Lib.hid htt
          have b0 : (0 : Int) ≤ m := by omega
          have b1 : (m : Int) < ny.1.length := by omega
          have r0 : (0 : Int) ≤ r := by omega
          clear hrr htt hvn in1
          cases t with
          | true =>
            have R : Hid (geF C x y = false) := Lib.hid (by
              rw [HW.out, any_at ny.1 (fun l => geF C l x) m r HRR.out HTT.out, Bool.or_true]
              simp)
            go_wp2_with fail
            refine (C1.out _ (Below.refl _ _)).mono ?_
            rintro e w2 ⟨rfl, hT⟩
            go_wp2_with fail
            go_ret
            exact ⟨ret_bool R.out.symm, hT.out.1⟩
          | false =>
            have R : Hid ((ny.1.take (m + 1)).any (fun l => geF C l x) = false) := Lib.hid (any_take_false ny.1 _ m r HRR.out hany.out HTT.out)
            go_wp2_with fail
            refine (C1.out _ (Below.refl _ _)).mono ?_
            rintro e w2 ⟨rfl, hT⟩
            have HT2 := Lib.hid hT.out.1
            have HO2 := Lib.hid hT.out.2
            clear hT
            go_wp2_with fail
            go_roundw
            case rel => exact ⟨m + 1, by omega, by go_num, R, HT2, HO2⟩
            case measure => simp [intOf]; omega
        · have R : Hid (geF C x y = true) := Lib.hid (by
            have := hany.out
            rw [List.take_of_length_le (by omega)] at this
            rw [HW.out, HAN.out, this]
            rfl)
          obtain ⟨b, off, cc, hp, _⟩ := in1
          subst hp
          clear hany hvn
          go_wp2_with fail
          go_ret
          exact ⟨ret_bool R.out.symm, ht.out⟩

theorem geq_put {base O B g n x y p : Nat} {C : List Nd} {bs : List Nat} {vn vb : Value} {vs : List (Value × Value)} {cs : List Int} {w w2 : World} (h : Od w base O B g n C bs vn vb vs) (hr : Rt C C.length cs (x + y + 1)) (hk : RowK base g n cs w) (hx : x < C.length) (hy : y < C.length) (hp : x * C.length + y = p)
    (ht : Told base g n C (cs.set p 2) (x + y) (w.setCell ⟨g, p, none⟩ (.int .i64 2)) w2) :
    w2.cell? ⟨O, 1, none⟩ = some (.slice (some ⟨g, 0, none⟩) n n) ∧ w2.cell? ⟨g, p, none⟩ = some (.int .i64 2) ∧ w2.frozen? ⟨g, p, none⟩ = false ∧ Hid (geF C x y = false → Told base g n C cs (x + y + 1) w w2) ∧
      (w2.setCell ⟨g, p, none⟩ (.int .i64 1)).cell? ⟨O, 1, none⟩ = some (.slice (some ⟨g, 0, none⟩) n n) ∧ (w2.setCell ⟨g, p, none⟩ (.int .i64 1)).cell? ⟨g, p, none⟩ = some (.int .i64 1) ∧ Hid (geF C x y = true → Told base g n C cs (x + y + 1) w (w2.setCell ⟨g, p, none⟩ (.int .i64 1))) := by
  subst hp
  have ho1 := (hk.put (x := x * C.length + y) (v := 2)).2
  obtain ⟨cs2, h1, h2, h3, h4⟩ := ht
  have hd := hr.done hx hy rfl h1 h2
  obtain ⟨d1, d2, d3⟩ := hd
  obtain ⟨c0, f0⟩ := h3.at_ d3
  have o2 : Only w w2 (fun b => b = g) := ho1.trans h4 (fun _ _ h => h)
  obtain ⟨h3p, o3⟩ := h3.put (x := x * C.length + y) (v := 1)
  exact ⟨(h.only o2).c1, c0, f0, Lib.hid (fun e => ⟨cs2, (d2 e).1, (d2 e).2, h3, o2⟩), ((h.only o2).only o3).c1, World.cell?_setCell_same _ _ _ c0, Lib.hid (fun e => ⟨_, (d1 e).1, (d1 e).2, h3p, o2.trans o3 (fun _ _ h => h)⟩)⟩

set_option maxRecDepth 100000 in
set_option maxHeartbeats 4000000 in
theorem geq_step (base O B g n : Nat) (C : List Nd) (bs : List Nat) (vn vb : Value) (vs : List (Value × Value)) (hC : Under C) (hCl : C.length ≤ 1000) (x y : Nat) (IH : GeqB base O B g n C bs vn vb vs (x + y)) (cs : List Int) (w : World) (hx : x < C.length) (hy : y < C.length)
    (h : Od w base O B g n C bs vn vb vs) (hr : Rt C C.length cs (x + y + 1)) (hk : RowK base g n cs w) :
    Calls Try.prog 65 #[.pointer (some ⟨O, 0, none⟩), .int .i64 x, .int .i64 y] w fun e w' => e = .returned (.bool (geF C x y)) ∧ Told base g n C cs (x + y + 1) w w' := by
  have hn : n = C.length * C.length := by have := hk.1; rw [List.length_map, hr.1] at this; omega
  have hplt := place_lt hx hy
  obtain ⟨q, hq⟩ : ∃ q, x * C.length = q := ⟨_, rfl⟩
  have hqi : (x : Int) * (C.length : Int) = (q : Int) := by rw [← hq]; simp
  have hqb : q ≤ 1000000 := by rw [← hq]; exact Nat.le_trans (Nat.mul_le_mul (show x ≤ 1000 by omega) hCl) (by omega)
  obtain ⟨p, hp⟩ : ∃ p, q + y = p := ⟨_, rfl⟩
  have hpi : (q : Int) + (y : Int) = (p : Int) := by omega
  have hpp : x * C.length + y = p := by rw [hq, hp]
  obtain ⟨v, hv⟩ := lt_get (l := cs) (i := x * C.length + y) (by rw [hr.1]; exact hplt)
  have hent := hr.2 x y hx hy (by omega)
  rw [hv] at hent
  rw [hpp] at hv
  obtain ⟨c0, f0⟩ := hk.at_ hv
  have k0 := h.c0
  have k1 := h.c1
  have kb := h.bk.c0
  obtain ⟨nx, hnx⟩ := lt_get hx
  obtain ⟨gn, cn, _, hvn, _, _, _, _, _⟩ := h.bk.node hnx
  have HT0 : Hid (Told base g n C cs (x + y + 1) w w) := Lib.hid ⟨cs, hr, Sm.refl _ _ _, hk, Only.refl _ _⟩
  have hpn : (p : Int) < n := by rw [hn]; omega
  have hst := hr.start hx hy 2
  rw [hpp] at hst
  have hput := hk.put (x := p) (v := 2)
  have hdr : Below (w.setCell ⟨g, p, none⟩ (.int .i64 2)).heap.size (w.setCell ⟨g, p, none⟩ (.int .i64 2)) (w.setCell ⟨g, p, none⟩ (.int .i64 2)).drew := below_drewN (Below.refl _ _) 1
  have C1 := look_calls base O B g n C bs vn vb vs hC hCl x y IH (cs.set p 2) (w.setCell ⟨g, p, none⟩ (.int .i64 2)) hx hy (h.only hput.2) hst.1 hput.1
  have HF := Lib.hid fun w2 (ht : Told base g n C (cs.set p 2) (x + y) (w.setCell ⟨g, p, none⟩ (.int .i64 2)) w2) => geq_put h hr hk hx hy hpp ht
  rw [hvn] at kb
  obtain ⟨t, ht⟩ : ∃ t, geF C x y = t := ⟨_, rfl⟩
  have hgc : geC C x y = if t then 1 else 2 := by unfold geC; rw [ht]
  rw [ht] at C1 HF ⊢
  have C2 := Lib.hid C1
  have hp0 : (0 : Int) ≤ p := by omega
  have yI : (y : Int) ≤ 1000 := by omega
  have hv2 : v = (if t then 1 else 2) ∨ v = 0 := by
    rw [hgc] at hent
    rcases hent with e | e
    · right; injection e
    · left; injection e
  have hko : (w.setCell ⟨g, p, none⟩ (.int .i64 2)).cell? ⟨O, 1, none⟩ = some (.slice (some ⟨g, 0, none⟩) n n) := (h.only hput.2).c1
  clear hent hn hplt hq hp hpp hv h hr hk hst hput C1 IH hC hvn hnx ht hgc hdr
  rcases hv2 with e | e
  · have v0 : (v == 0) = false := by rw [e]; cases t <;> rfl
    have v1 : (v == 1) = t := by rw [e]; cases t <;> rfl
    clear e C2 HF
    go_enter Try.func65, Try.ntmps65
    go_wp2_with fail
    go_ret
    exact ⟨rfl, HT0.out⟩
  · subst e
    clear HT0
    go_enter Try.func65, Try.ntmps65
    go_wp2_with fail
    refine C2.out.mono ?_
    rintro e w2 ⟨rfl, hto⟩
    obtain ⟨d1, d2, d3, d4, d5, d6, d7⟩ := HF.out w2 hto
    clear hto
    cases t with
    | true =>
      have D := Lib.hid (d7.out rfl)
      go_wp2_with fail
      go_ret
      exact ⟨rfl, D.out⟩
    | false =>
      have D := Lib.hid (d4.out rfl)
      go_wp2_with fail
      go_ret
      exact ⟨rfl, D.out⟩

theorem geq_calls (base O B g n : Nat) (C : List Nd) (bs : List Nat) (vn vb : Value) (vs : List (Value × Value)) (hC : Under C) (hCl : C.length ≤ 1000) : ∀ s, GeqB base O B g n C bs vn vb vs s
  | 0 => fun x y cs w h => by omega
  | s + 1 => fun x y cs w hs hx hy h hr hk => by
    have IH := geq_calls base O B g n C bs vn vb vs hC hCl s
    exact geq_step base O B g n C bs vn vb vs hC hCl x y (fun x' y' cs' w' hs' hx' hy' h' hr' hk' => IH x' y' cs' w' (by omega) hx' hy' h' hr' hk') cs w hx hy h hr hk

end Go.Proofs.Ytiacgcpcgabdoaa
