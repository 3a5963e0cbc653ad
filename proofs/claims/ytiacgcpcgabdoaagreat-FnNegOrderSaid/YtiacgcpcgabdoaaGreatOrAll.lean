/- The program's contest, as it lies in memory. -/
import Derived.Test.YtiacgcpcgabdoaaGreatOrTab
import Derived.Test.YtiacgcpcgabdoaaGreatFmBk
import Derived.IntWalk
import Derived.StillTailTactics
import Derived.Test.YtiacgcpcgabdoaaGreatFmTo
import Derived.Lib.AppendZerosOnto
import Derived.Lib.SliceRun
import Derived.Deep.WholeRow
import Derived.Lib.Walk
import Derived.Test.YtiacgcpcgabdoaaGreatFmGoodI
import Derived.Deep.Onto
import Derived.Test.YtiacgcpcgabdoaaGreatOrMath
import Derived.Test.YtiacgcpcgabdoaaGreatFmBase
import Derived.Test.YtiacgcpcgabdoaaGreatFmLaw
namespace Go.Proofs.YtiacgcpcgabdoaaGreat
section
open Go.RowKit
set_option linter.unusedVariables false
set_option linter.unusedSimpArgs false

theorem options_calls (v1 v2 : Value) (left : Bool) (w : World) :
    Calls Tryz.prog 85 #[.agg #[v1, v2], .bool left] w fun e w' => e = .returned (if left then v1 else v2) ∧ Below w.heap.size w w' := by
  have HB := Lib.hid fun o => show Below w.heap.size w (w.alloc o) from (Below.refl _ _).alloc (Nat.le_refl _) _
  cases left with
  | true =>
    go_enter Tryz.func85, Tryz.ntmps85
    go_wp2
    go_ret
    exact ⟨rfl, HB.out _⟩
  | false =>
    go_enter Tryz.func85, Tryz.ntmps85
    go_wp2
    go_ret
    exact ⟨rfl, HB.out _⟩

/-- the table of answers -/
def RowV (base g n cap : Nat) (cs : List Int) (w : World) : Prop := w.ownsRow base 134 1 (.slice (some ⟨g, 0, none⟩) n cap) n (cs.map (Value.int .i8))

theorem RowV.at_ {base g n cap x : Nat} {v : Int} {cs : List Int} {w : World} (h : RowV base g n cap cs w) (hx : cs[x]? = some v) : w.cell? ⟨g, x, none⟩ = some (.int .i8 v) ∧ w.frozen? ⟨g, x, none⟩ = false := by
  have hl : (cs.map (Value.int .i8)).length = n * 1 := h.1
  have hlt := get_lt hx
  rw [List.length_map] at hl
  have h2 := World.ownsRow.cellAt h x (by omega)
  refine ⟨?_, World.ownsRow.frozenAt h x⟩
  rw [h2, List.getElem?_map, hx]
  rfl

theorem RowV.put {base g n cap x : Nat} {v : Int} {cs : List Int} {w : World} (h : RowV base g n cap cs w) :
    RowV base g n cap (cs.set x v) (w.setCell ⟨g, x, none⟩ (.int .i8 v)) ∧ Only w (w.setCell ⟨g, x, none⟩ (.int .i8 v)) (fun b => b = g) := by
  have h2 := World.ownsRow.stored h x (.int .i8 v)
  rw [← List.map_set] at h2
  exact ⟨h2.1, Only.of_set _ rfl⟩

theorem RowV.lt {base g n cap : Nat} {cs : List Int} {w : World} (h : RowV base g n cap cs w) : base ≤ g ∧ g < w.heap.size := World.ownsRow.lt h g rfl

theorem RowV.below {base g n cap : Nat} {cs : List Int} {w w' : World} (h : RowV base g n cap cs w) (hb : Below w.heap.size w w') : RowV base g n cap cs w' :=
  own_only h (Only.of_below (F := fun _ => False) hb) (fun _ _ => id)

/-- a contest of two games -/
structure Ct (w : World) (base P g n cap : Nat) (A B : List Nd) (va vb : Value) : Prop where
  c0 : w.cell? ⟨P, 0, none⟩ = some va
  c1 : w.cell? ⟨P, 1, none⟩ = some vb
  c2 : w.cell? ⟨P, 2, none⟩ = some (.slice (some ⟨g, 0, none⟩) n cap)
  na : NodesZ w 0 base va (A.map upN)
  nb : NodesZ w 0 base vb (B.map upN)
  hg : base ≤ g
  hgl : g < w.heap.size
  hP : P ≠ g

theorem Only.sameIn {w w' : World} {F : Nat → Prop} {hi : Nat} (h : Only w w' F) (hl : hi ≤ w.heap.size) (hF : ∀ b, b < hi → ¬ F b) : SameIn 0 hi w w' := fun b o _ h2 => h.cell (by omega) (hF b h2)

theorem Ct.only {w w' : World} {base P g n cap : Nat} {A B : List Nd} {va vb : Value} (h : Ct w base P g n cap A B va vb) (ho : Only w w' (fun b => b = g)) : Ct w' base P g n cap A B va vb := by
  have hP := block_of_cell h.c0
  have h1 := h.hg
  have h2 := h.hgl
  have hs : SameIn 0 base w w' := ho.sameIn (by omega) (fun b hb e => by omega)
  exact ⟨(ho.cell hP h.hP).trans h.c0, (ho.cell hP h.hP).trans h.c1, (ho.cell hP h.hP).trans h.c2, h.na.keep hs, h.nb.keep hs, h.hg, Nat.lt_of_lt_of_le h.hgl ho.size, h.hP⟩

theorem Ct.below {w w' : World} {base P g n cap : Nat} {A B : List Nd} {va vb : Value} (h : Ct w base P g n cap A B va vb) (hb : Below w.heap.size w w') : Ct w' base P g n cap A B va vb := h.only (Only.of_below hb)

/-- what a question of the contest leaves -/
def Asked (base g n cap : Nat) (A B : List Nd) (w w' : World) : Prop := ∃ cs, Wn A B cs ∧ RowV base g n cap cs w' ∧ Only w w' (fun b => b = g)

/-- a node of a slice of nodes of numbers, cell by cell -/
theorem nodes_at {w : World} {lo hi : Nat} {v : Value} {A : List Nd} (h : NodesZ w lo hi v (A.map upN)) {i : Nat} {nd : Nd} (hi' : A[i]? = some nd) :
    ∃ b off c v1 v2, v = .slice (some ⟨b, off, none⟩) A.length c ∧ b < hi ∧ w.cell? ⟨b, off + i * 2, none⟩ = some v1 ∧ w.cell? ⟨b, off + i * 2 + 1, none⟩ = some v2 ∧ IntsZ w lo hi v1 (upL nd.1) ∧ IntsZ w lo hi v2 (upL nd.2) := by
  obtain ⟨ao, c, rfl, _, h3⟩ := h
  obtain ⟨b, off, v1, v2, rfl, _, hb, p1, p2, i1, i2⟩ := h3 i (upN nd) (by rw [List.getElem?_map, hi']; rfl)
  exact ⟨b, off, c, v1, v2, by rw [List.length_map], hb, p1, p2, i1, i2⟩
end

section
open Go.RowKit
set_option linter.unusedVariables false
set_option linter.unusedSimpArgs false

/-- wins, for the pairs of a lesser sum -/
def WinsB (base P g n cap : Nat) (A B : List Nd) (va vb : Value) (s : Nat) : Prop := ∀ (i j : Nat) (l : Bool) (cs : List Int) (w : World), i + j < s → i < A.length → j < B.length → Ct w base P g n cap A B va vb → Wn A B cs → RowV base g n cap cs w →
  Calls Tryz.prog 62 #[.pointer (some ⟨P, 0, none⟩), .int .i64 i, .int .i64 j, .bool l] w fun e w' => e = .returned (.bool (winF A B i j l)) ∧ Asked base g n cap A B w w'

theorem Asked.trans {base g n cap : Nat} {A B : List Nd} {w w1 w2 : World} (h : Asked base g n cap A B w w1) (k : Asked base g n cap A B w1 w2) : Asked base g n cap A B w w2 := by
  obtain ⟨_, _, _, h3⟩ := h
  obtain ⟨cs, k1, k2, k3⟩ := k
  exact ⟨cs, k1, k2, h3.trans k3 (fun _ _ h => h)⟩

theorem Asked.only {base g n cap : Nat} {A B : List Nd} {w w1 : World} (h : Asked base g n cap A B w w1) : Only w w1 (fun b => b = g) := by obtain ⟨_, _, _, h3⟩ := h; exact h3

theorem Asked.below {base g n cap : Nat} {A B : List Nd} {w w1 w2 : World} (h : Asked base g n cap A B w w1) (hb : Below w1.heap.size w1 w2) : Asked base g n cap A B w w2 := by
  obtain ⟨cs, k1, k2, h3⟩ := h
  exact ⟨cs, k1, k2.below hb, h3.trans (Only.of_below hb) (fun _ _ h => h)⟩

theorem Asked.same {base g n cap : Nat} {A B : List Nd} {w w1 : World} (h : Asked base g n cap A B w w1) (hg : base ≤ g) (hl : g < w.heap.size) : SameIn 0 base w w1 := h.only.sameIn (by omega) (fun b hb e => by omega)

theorem ints_len {w : World} {lo hi : Nat} {v : Value} {l : List Nat} (h : IntsZ w lo hi v (upL l)) : ∃ ao c, v = .slice ao l.length c ∧ (l.length ≤ c ∧ c ≤ 9223372036854775807) := by
  obtain ⟨ao, c, rfl, h2, _⟩ := h
  have : (upL l).length = l.length := by unfold upL; simp
  rw [this] at h2 ⊢
  exact ⟨ao, c, rfl, h2⟩

theorem ints_at {w : World} {lo hi : Nat} {ao : Option Addr} {n c : Nat} {l : List Nat} (h : IntsZ w lo hi (.slice ao n c) (upL l)) {k x : Nat} (hx : l[k]? = some x) : ∃ b off, ao = some ⟨b, off, none⟩ ∧ b < hi ∧ w.cell? ⟨b, off + k, none⟩ = some (.int .i64 (x : Int)) := by
  obtain ⟨ao', c', e, _, h3⟩ := h
  injection e with e1 _ _
  subst e1
  obtain ⟨b, off, e, _, hb, hc⟩ := h3 k (x : Int) (by unfold upL; rw [List.getElem?_map, hx]; rfl)
  exact ⟨b, off, e, hb, hc⟩

set_option maxRecDepth 100000 in
set_option maxHeartbeats 4000000 in
theorem search_calls (base P g n cap : Nat) (A B : List Nd) (va vb : Value) (hA : Under A) (hB : Under B) (i j : Nat) (l : Bool) (IH : WinsB base P g n cap A B va vb (i + j)) (cs : List Int) (w : World) (hi : i < A.length) (hj : j < B.length)
    (h : Ct w base P g n cap A B va vb) (hw : Wn A B cs) (hr : RowV base g n cap cs w) :
    Calls Tryz.prog 106 #[.pointer (some ⟨P, 0, none⟩), .int .i64 i, .int .i64 j, .bool l] w fun e w' => e = .returned (.int .i8 (wiC A B i j l)) ∧ Asked base g n cap A B w w' := by
  obtain ⟨x, hx⟩ := lt_get hi
  obtain ⟨y, hy⟩ := lt_get hj
  obtain ⟨b1, o1, c1, v1, v2, rfl, hb1, p1, p2, i1, i2⟩ := nodes_at h.na hx
  obtain ⟨b2, o2, c2, u1, u2, rfl, hb2, q1, q2, j1, j2⟩ := nodes_at h.nb hy
  have hbz := h.hg
  have hbz2 := h.hgl
  have k0 := h.c0
  have HC0 := Lib.hid h
  have L1 : Hid (optsD A i l = if l then x.1 else x.2) := Lib.hid (by unfold optsD; rw [nodeD_at hx])
  have L2 : Hid (optsD B j (!l) = if !l then y.1 else y.2) := Lib.hid (by unfold optsD; rw [nodeD_at hy])
  have HW : Hid (winF A B i j l = ((optsD A i l).any (fun o => !winF A B o j (!l)) || (optsD B j (!l)).any (fun o => !winF A B i o (!l)))) := Lib.hid (winF_eq A B hA hB i j l)
  have HL1 : Hid (∀ o, o ∈ optsD A i l → o < i) := Lib.hid (fun o ho => optsD_lt hA ho)
  have HL2 : Hid (∀ o, o ∈ optsD B j (!l) → o < j) := Lib.hid (fun o ho => optsD_lt hB ho)
  have HIH := Lib.hid IH
  have HQ1 := Lib.hid q1
  have HQ2 := Lib.hid q2
  have HJ1 := Lib.hid j1
  have HJ2 := Lib.hid j2
  clear IH hA hB hx hy q1 q2 j1 j2
  go_enter Tryz.func106, Tryz.ntmps106
  go_wp2_with fail
  refine (options_calls v1 v2 l w).mono ?_
  rintro e w1 ⟨rfl, hb⟩
  obtain ⟨vo, Lo, hvo, hio, hLo⟩ : ∃ vo Lo, (if l then v1 else v2) = vo ∧ IntsZ w1 0 base vo (upL Lo) ∧ Hid (optsD A i l = Lo) := by
    cases l with
    | true => exact ⟨v1, x.1, rfl, i1.below hb (by omega), Lib.hid (by rw [L1.out]; rfl)⟩
    | false => exact ⟨v2, x.2, rfl, i2.below hb (by omega), Lib.hid (by rw [L1.out]; rfl)⟩
  rw [hvo]
  rw [hLo.out] at HW HL1
  have HC := Lib.hid (h.below hb)
  have HA : Hid (Asked base g n cap A B w w1) := Lib.hid ⟨cs, hw, hr.below hb, Only.of_below hb⟩
  obtain ⟨ao, co, rfl, hco⟩ := ints_len hio
  have HIO := Lib.hid hio
  clear h hr hb i1 i2 p1 p2 k0 hvo L1 hio hw hLo
  go_wp2
  go_loopw [23] (fun q wr => ∃ k : Nat, k ≤ Lo.length ∧ q = .int .i64 k ∧ Hid ((Lo.take k).any (fun o => !winF A B o j (!l)) = false) ∧ Hid (Asked base g n cap A B w wr) ∧ Hid (Ct wr base P g n cap A B (.slice (some ⟨b1, o1, none⟩) A.length c1) (.slice (some ⟨b2, o2, none⟩) B.length c2)) ∧ Hid (IntsZ wr 0 base (.slice ao Lo.length co) (upL Lo))) (fun q _ => Lo.length - (intOf q).toNat)
  case atStart => exact ⟨0, Nat.zero_le _, rfl, Lib.hid (by simp), HA, HC, HIO⟩
  case round =>
    obtain ⟨k, hk, rfl, hany, ha, hc, hio⟩ := hrel
    clear HA HC HIO
    have hgl := ha.out.only.size
    by_cases hlt : k < Lo.length
    · obtain ⟨o, ho⟩ := lt_get hlt
      have hoi := HL1.out o (List.mem_of_getElem? ho)
      obtain ⟨b, off, rfl, hbb, hcell⟩ := ints_at hio.out ho
      obtain ⟨r, hr⟩ : ∃ r, winF A B o j (!l) = r := ⟨_, rfl⟩
      have C := Lib.hid (show ∀ W, Below wr.heap.size wr W → Calls Tryz.prog 62 #[.pointer (some ⟨P, 0, none⟩), .int .i64 o, .int .i64 j, .bool (!l)] W fun e w' => e = .returned (.bool r) ∧ Asked base g n cap A B W w' from fun W hW => by
        obtain ⟨cs', h1, h2, h3⟩ := ha.out
        rw [← hr]
        exact HIH.out o j (!l) cs' W (by omega) (by omega) hj (hc.out.below hW) h1 (h2.below hW))
      have HO := Lib.hid ho
      have HRR := Lib.hid hr
      clear ho hr
      have b0 : (0 : Int) ≤ k := by omega
      have b1' : (k : Int) < Lo.length := by omega
      cases r with
      | false =>
        have R : Hid (wiC A B i j l = 1) := Lib.hid (by
          unfold wiC
          rw [HW.out, any_at Lo _ k o HO.out (by simp [HRR.out])]
          rfl)
        go_wp2_with fail
        refine (C.out _ (Below.refl _ _)).mono ?_
        rintro e w2 ⟨rfl, ha2⟩
        have HA2 := Lib.hid (ha.out.trans ha2)
        clear ha2
        go_wp2_with fail
        go_ret
        exact ⟨ret_int R.out.symm, HA2.out⟩
      | true =>
        have R : Hid ((Lo.take (k + 1)).any (fun o => !winF A B o j (!l)) = false) := Lib.hid (any_take_false Lo _ k o HO.out hany.out (by simp [HRR.out]))
        go_wp2_with fail
        refine (C.out _ (Below.refl _ _)).mono ?_
        rintro e w2 ⟨rfl, ha2⟩
        have HA2 := Lib.hid (ha.out.trans ha2)
        have HC2 := Lib.hid (hc.out.only ha2.only)
        have HI2 := Lib.hid (hio.out.keep (ha2.same hbz (by omega)))
        clear ha2
        go_wp2_with fail
        go_roundw
        case rel => exact ⟨k + 1, by omega, by go_num, R, HA2, HC2, HI2⟩
        case measure => simp [intOf]; omega
    · have HAN : Hid (Lo.any (fun o => !winF A B o j (!l)) = false) := Lib.hid (by
        have := hany.out
        rwa [List.take_of_length_le (by omega)] at this)
      clear hany hio HL1
      obtain ⟨W1, hW1⟩ : ∃ W, W = wr := ⟨_, rfl⟩
      subst hW1
      have hsm := ha.out.same hbz hbz2
      have k1 := hc.out.c1
      have p1 := (hsm b2 (o2 + j * 2) (Nat.zero_le _) hb2).trans HQ1.out
      have p2 := (hsm b2 (o2 + j * 2 + 1) (Nat.zero_le _) hb2).trans HQ2.out
      have i1 := Lib.hid (HJ1.out.keep hsm)
      have i2 := Lib.hid (HJ2.out.keep hsm)
      have bj : (j : Int) < B.length := by omega
      clear hsm HQ1 HQ2 HJ1 HJ2 HC0
      go_wp2_with fail
      refine (options_calls u1 u2 (!l) W1).mono ?_
      rintro e w2 ⟨rfl, hb⟩
      obtain ⟨vo, Lp, hvo, hio, hLo⟩ : ∃ vo Lp, (if !l then u1 else u2) = vo ∧ IntsZ w2 0 base vo (upL Lp) ∧ Hid (optsD B j (!l) = Lp) := by
        cases l with
        | false => exact ⟨u1, y.1, rfl, i1.out.below hb (by omega), Lib.hid (by rw [L2.out]; rfl)⟩
        | true => exact ⟨u2, y.2, rfl, i2.out.below hb (by omega), Lib.hid (by rw [L2.out]; rfl)⟩
      rw [hvo]
      rw [hLo.out] at HW HL2
      have HC := Lib.hid (hc.out.below hb)
      have HA : Hid (Asked base g n cap A B w w2) := Lib.hid (ha.out.below hb)
      obtain ⟨ap, cp, rfl, hcp⟩ := ints_len hio
      have HIO := Lib.hid hio
      clear hb i1 i2 p1 p2 k1 hvo L2 hio hLo ha hc
      go_wp2
      go_loopw [46] (fun q wr => ∃ k : Nat, k ≤ Lp.length ∧ q = .int .i64 k ∧ Hid ((Lp.take k).any (fun o => !winF A B i o (!l)) = false) ∧ Hid (Asked base g n cap A B w wr) ∧ Hid (Ct wr base P g n cap A B (.slice (some ⟨b1, o1, none⟩) A.length c1) (.slice (some ⟨b2, o2, none⟩) B.length c2)) ∧ Hid (IntsZ wr 0 base (.slice ap Lp.length cp) (upL Lp))) (fun q _ => Lp.length - (intOf q).toNat)
      case atStart => exact ⟨0, Nat.zero_le _, rfl, Lib.hid (by simp), HA, HC, HIO⟩
      case round =>
        obtain ⟨m, hm, rfl, hany, ha, hc, hio⟩ := hrel
        clear HA HC HIO
        have hgl := ha.out.only.size
        by_cases hlt2 : m < Lp.length
        · obtain ⟨o, ho⟩ := lt_get hlt2
          have hoi := HL2.out o (List.mem_of_getElem? ho)
          obtain ⟨b, off, rfl, hbb, hcell⟩ := ints_at hio.out ho
          obtain ⟨r, hr⟩ : ∃ r, winF A B i o (!l) = r := ⟨_, rfl⟩
          have C := Lib.hid (show ∀ W, Below wr.heap.size wr W → Calls Tryz.prog 62 #[.pointer (some ⟨P, 0, none⟩), .int .i64 i, .int .i64 o, .bool (!l)] W fun e w' => e = .returned (.bool r) ∧ Asked base g n cap A B W w' from fun W hW => by
            obtain ⟨cs', h1, h2, h3⟩ := ha.out
            rw [← hr]
            exact HIH.out i o (!l) cs' W (by omega) hi (by omega) (hc.out.below hW) h1 (h2.below hW))
          have HO := Lib.hid ho
          have HRR := Lib.hid hr
          clear ho hr
          have b0 : (0 : Int) ≤ m := by omega
          have b1' : (m : Int) < Lp.length := by omega
          cases r with
          | false =>
            have R : Hid (wiC A B i j l = 1) := Lib.hid (by
              unfold wiC
              rw [HW.out, any_at Lp _ m o HO.out (by simp [HRR.out]), Bool.or_true]
              rfl)
            go_wp2_with fail
            refine (C.out _ (Below.refl _ _)).mono ?_
            rintro e w3 ⟨rfl, ha2⟩
            have HA2 := Lib.hid (ha.out.trans ha2)
            clear ha2
            go_wp2_with fail
            go_ret
            exact ⟨ret_int R.out.symm, HA2.out⟩
          | true =>
            have R : Hid ((Lp.take (m + 1)).any (fun o => !winF A B i o (!l)) = false) := Lib.hid (any_take_false Lp _ m o HO.out hany.out (by simp [HRR.out]))
            go_wp2_with fail
            refine (C.out _ (Below.refl _ _)).mono ?_
            rintro e w3 ⟨rfl, ha2⟩
            have HA2 := Lib.hid (ha.out.trans ha2)
            have HC2 := Lib.hid (hc.out.only ha2.only)
            have HI2 := Lib.hid (hio.out.keep (ha2.same hbz (by omega)))
            clear ha2
            go_wp2_with fail
            go_roundw
            case rel => exact ⟨m + 1, by omega, by go_num, R, HA2, HC2, HI2⟩
            case measure => simp [intOf]; omega
        · have R : Hid (wiC A B i j l = 2) := Lib.hid (by
            have := hany.out
            rw [List.take_of_length_le (by omega)] at this
            unfold wiC
            rw [HW.out, HAN.out, this]
            rfl)
          clear hany hio
          go_wp2_with fail
          go_ret
          exact ⟨ret_int R.out.symm, ha.out⟩

theorem asked_put {base P g n cap : Nat} {A B : List Nd} {va vb : Value} {w w2 : World} {i j p : Nat} {l : Bool} {wv : Int} (h : Ct w base P g n cap A B va vb) (ha : Asked base g n cap A B w w2) (hi : i < A.length) (hj : j < B.length) (hp : plc B.length i j l = p) (hwv : wiC A B i j l = wv) :
    w2.cell? ⟨P, 2, none⟩ = some (.slice (some ⟨g, 0, none⟩) n cap) ∧ (∃ u, w2.cell? ⟨g, p, none⟩ = some (.int .i8 u)) ∧ w2.frozen? ⟨g, p, none⟩ = false ∧ Hid (Asked base g n cap A B w (w2.setCell ⟨g, p, none⟩ (.int .i8 wv))) ∧
      (w2.setCell ⟨g, p, none⟩ (.int .i8 wv)).cell? ⟨P, 2, none⟩ = some (.slice (some ⟨g, 0, none⟩) n cap) ∧ (w2.setCell ⟨g, p, none⟩ (.int .i8 wv)).cell? ⟨g, p, none⟩ = some (.int .i8 wv) := by
  subst hp hwv
  have h2 := h.only ha.only
  obtain ⟨cs, hw, hr, ho⟩ := ha
  obtain ⟨v, hv⟩ := lt_get (l := cs) (i := plc B.length i j l) (by rw [hw.1]; exact plc_lt hi hj)
  obtain ⟨c0, f0⟩ := hr.at_ hv
  obtain ⟨hr2, ho2⟩ := hr.put (x := plc B.length i j l) (v := wiC A B i j l)
  exact ⟨h2.c2, ⟨v, c0⟩, f0, Lib.hid ⟨_, hw.set hi hj, hr2, ho.trans ho2 (fun _ _ h => h)⟩, (h2.only ho2).c2, World.cell?_setCell_same _ _ _ c0⟩

set_option maxRecDepth 100000 in
set_option maxHeartbeats 4000000 in
theorem wins_step (base P g n cap : Nat) (A B : List Nd) (va vb : Value) (hA : Under A) (hB : Under B) (hAl : A.length ≤ 1000) (hBl : B.length ≤ 1000) (i j : Nat) (l : Bool) (IH : WinsB base P g n cap A B va vb (i + j)) (cs : List Int) (w : World) (hi : i < A.length) (hj : j < B.length)
    (h : Ct w base P g n cap A B va vb) (hw : Wn A B cs) (hr : RowV base g n cap cs w) :
    Calls Tryz.prog 62 #[.pointer (some ⟨P, 0, none⟩), .int .i64 i, .int .i64 j, .bool l] w fun e w' => e = .returned (.bool (winF A B i j l)) ∧ Asked base g n cap A B w w' := by
  have hdr : Below w.heap.size w w.drew := below_drewN (Below.refl _ _) 1
  have C0 := (search_calls base P g n cap A B va vb hA hB i j l IH cs w.drew hi hj (h.below hdr) hw (hr.below hdr)).mono fun e w' hp => (⟨hp.1, Asked.trans ⟨cs, hw, hr.below hdr, Only.of_below hdr⟩ hp.2⟩ : e = .returned (.int .i8 (wiC A B i j l)) ∧ Asked base g n cap A B w w')
  clear hdr
  have hn : n = 2 * (A.length * B.length) := by have := hr.1; rw [List.length_map, hw.1] at this; omega
  have hp := plc_lt (l := l) hi hj
  obtain ⟨q, hq⟩ : ∃ q, i * B.length = q := ⟨_, rfl⟩
  have hqi : (i : Int) * (B.length : Int) = (q : Int) := by rw [← hq]; simp
  have hqb : q ≤ 1000000 := by rw [← hq]; exact Nat.le_trans (Nat.mul_le_mul (show i ≤ 1000 by omega) hBl) (by omega)
  obtain ⟨ao, c2, rfl, hcb⟩ := (show ∃ ao c, vb = .slice ao B.length c ∧ B.length ≤ c from by obtain ⟨ao, c, e, h1, _⟩ := h.nb; rw [List.length_map] at e h1; exact ⟨ao, c, e, h1.1⟩)
  have hlt : plc B.length i j l < n := by rw [hn]; exact hp
  obtain ⟨v, hv⟩ := lt_get (l := cs) (i := plc B.length i j l) (by rw [hw.1]; exact hp)
  have hent := hw.2 i j l hi hj
  rw [hv] at hent
  obtain ⟨c0, f0⟩ := hr.at_ hv
  obtain ⟨p0, hp0⟩ : ∃ p0, 2 * (q + j) = p0 := ⟨_, rfl⟩
  have hpi : 2 * ((q : Int) + (j : Int)) = (p0 : Int) := by omega
  have hpl : plc B.length i j l = p0 + ofB l := by unfold plc; rw [hq, hp0]
  have k1 := h.c1
  have k2 := h.c2
  have HA0 : Hid (Asked base g n cap A B w w) := Lib.hid ⟨cs, hw, hr, Only.refl _ _⟩
  obtain ⟨r, hwr⟩ : ∃ r, winF A B i j l = r := ⟨_, rfl⟩
  obtain ⟨wv, hwv⟩ : ∃ wv, wiC A B i j l = wv := ⟨_, rfl⟩
  have hwv2 : wv = if r then 1 else 2 := by rw [← hwv, ← hwr]; rfl
  have HF := Lib.hid fun w2 (ha : Asked base g n cap A B w w2) => asked_put h ha hi hj hpl hwv
  rw [hwr]
  rw [hwv] at C0 hent
  have C := Lib.hid C0
  rw [hpl] at hlt c0 f0
  have hjb : (j : Int) ≤ 1000 := by omega
  have hp0b : (p0 : Int) ≤ 2002000 := by omega
  have hp00 : (0 : Int) ≤ p0 := by omega
  clear hq hp0 hn hp hr hw hv hpl h IH hA hB C0 hwr hwv hAl hBl
  cases l with
  | false =>
    have e0 : p0 + ofB false = p0 := rfl
    rw [e0] at hlt c0 f0 HF
    have hltI : (p0 : Int) < n := by omega
    clear e0
    have hv2 : v = wv ∨ v = 0 := by
      rcases hent with e | e
      · right; injection e
      · left; injection e
    clear hent
    rcases hv2 with e | e
    · have v0 : (v == 0) = false := by rw [e, hwv2]; cases r <;> rfl
      have v1 : (v == 1) = r := by rw [e, hwv2]; cases r <;> rfl
      clear e hwv2 C HF
      go_enter Tryz.func62, Tryz.ntmps62
      go_wp2_with fail
      go_ret
      exact ⟨rfl, HA0.out⟩
    · subst e
      have v1 : (wv == 1) = r := by rw [hwv2]; cases r <;> rfl
      clear hwv2 HA0
      go_enter Tryz.func62, Tryz.ntmps62
      go_wp2_with fail
      go_region_with (go_at_call 106; (with_reducible refine C.out.mono ?_); rintro e w2 ⟨rfl, ha⟩; obtain ⟨d2, ⟨u, d0⟩, df, HA2, d3, d4⟩ := HF.out w2 ha; clear ha)
      all_goals
        go_wp2_with fail
        go_ret
        exact ⟨rfl, HA2.out⟩
  | true =>
    have e0 : p0 + ofB true = p0 + 1 := rfl
    rw [e0] at hlt c0 f0 HF
    have hltI : (p0 : Int) + 1 < n := by omega
    clear e0
    have hv2 : v = wv ∨ v = 0 := by
      rcases hent with e | e
      · right; injection e
      · left; injection e
    clear hent
    rcases hv2 with e | e
    · have v0 : (v == 0) = false := by rw [e, hwv2]; cases r <;> rfl
      have v1 : (v == 1) = r := by rw [e, hwv2]; cases r <;> rfl
      clear e hwv2 C HF
      go_enter Tryz.func62, Tryz.ntmps62
      go_wp2_with fail
      go_ret
      exact ⟨rfl, HA0.out⟩
    · subst e
      have v1 : (wv == 1) = r := by rw [hwv2]; cases r <;> rfl
      clear hwv2 HA0
      go_enter Tryz.func62, Tryz.ntmps62
      go_wp2_with fail
      go_region_with (go_at_call 106; (with_reducible refine C.out.mono ?_); rintro e w2 ⟨rfl, ha⟩; obtain ⟨d2, ⟨u, d0⟩, df, HA2, d3, d4⟩ := HF.out w2 ha; clear ha)
      all_goals
        go_wp2_with fail
        go_ret
        exact ⟨rfl, HA2.out⟩

theorem wins_calls (base P g n cap : Nat) (A B : List Nd) (va vb : Value) (hA : Under A) (hB : Under B) (hAl : A.length ≤ 1000) (hBl : B.length ≤ 1000) : ∀ s, WinsB base P g n cap A B va vb s
  | 0 => fun i j l cs w h => by omega
  | s + 1 => fun i j l cs w hs hi hj h hw hr => by
    have IH := wins_calls base P g n cap A B va vb hA hB hAl hBl s
    exact wins_step base P g n cap A B va vb hA hB hAl hBl i j l (fun i' j' l' cs' w' hs' hi' hj' h' hw' hr' => IH i' j' l' cs' w' (by omega) hi' hj' h' hw' hr') cs w hi hj h hw hr
end

section
open Go.RowKit Go.Lib
set_option linter.unusedVariables false
set_option linter.unusedSimpArgs false

theorem infoVer : (Tryz.prog.info? 134).map (fun i => (i.zero, i.size, i.bytes)) = some (some (.int .i8 0), 1, 1) := by kernel_rfl

theorem zeros_one (z : Value) (n : Nat) : Builtin.zeroCells #[z] n = (List.replicate n z).toArray := by
  apply Array.ext
  · simp [Builtin.zeroCells]
  · intro i h1 h2
    simp [Builtin.zeroCells, Nat.mod_one]

set_option maxRecDepth 100000 in
set_option maxHeartbeats 4000000 in
theorem grow_calls (n : Nat) (w : World) (h0 : 0 < n) (hn : n ≤ 100000) :
    Calls Tryz.prog 105 #[.slice none 0 0, .int .i64 n] w fun e w' => ∃ G m, n ≤ G ∧ G ≤ maxLen ∧ Hid (m = G - n) ∧ e = .returned (.slice (some ⟨w.heap.size, 0, none⟩) 0 G) ∧
      w' = w.drew.alloc (.cells ((List.replicate n (Value.int .i8 0)).toArray ++ (List.replicate m (Value.int .i8 0)).toArray) 134) := by
  obtain ⟨i0, hi0, hz0, hz1, hz2⟩ := info_parts infoVer
  have hrz : ∀ ty, (Builtin.append_ #[91, 3] ty #[.slice none 0 0, .int .i64 (n : Int)]).run Tryz.prog w =
      .ok (.slice (some ⟨w.heap.size, 0, none⟩) n (grownCap w n 0 134)) (w.drew.alloc (.cells ((List.replicate n (Value.int .i8 0)).toArray ++ (List.replicate (grownCap w n 0 134 - n) (Value.int .i8 0)).toArray) 134)) := fun ty => by
    have h := Lib.run_append_grow_zeros w 91 3 ty 134 i0 (.int .i8 0) .i64 .i64 Tryz.underlying91 Tryz.underlying3 hi0 hz0 none 0 0 [] (run_firstCells_none w.drew i0.size 0 0 0) n (by omega) (by omega) (by omega) (by omega)
      (by rw [hz2]; omega) (by rw [Nat.zero_add]; exact growslice_fits (by omega) (by rw [hz2]; omega))
    rw [Nat.zero_add] at h
    have e : (Value.int .i8 0).cells = #[Value.int .i8 0] := rfl
    rw [e, zeros_one, zeros_one] at h
    simpa using h
  have hGn : n ≤ grownCap w n 0 134 := grownCap_ge w _ _ _
  have hGm := grownCap_le_maxLen w n 0 134 (by unfold maxLen; omega)
  obtain ⟨G, hG⟩ : ∃ G, grownCap w n 0 134 = G := ⟨_, rfl⟩
  rw [hG] at hrz hGn hGm
  obtain ⟨m, hm⟩ : ∃ m, G - n = m := ⟨_, rfl⟩
  rw [hm] at hrz
  have HM := Lib.hid hm
  have h1 : ¬ ((n : Int) < 0) := by omega
  have h4 : (n : Int) > 0 := by omega
  have hG63 : (G : Int) ≤ 9223372036854775807 := by unfold maxLen at hGm; omega
  clear hG hm hi0 hz0 hz1 hz2
  go_enter Tryz.func105, Tryz.ntmps105
  go_wp2_with (at_builtin; refine Lib.wpList_append_run _ rfl _ _ _ _ rfl _ _ rfl rfl _ _ (hrz _) ?_)
  all_goals (go_ret; exact ⟨G, hGn, hGm, m, Lib.hid HM.out.symm, rfl, rfl⟩)

theorem run_clear (g n m G : Nat) (h0 : 0 < n) (W : World) (ty : TypeId) (h : W.heap[g]? = some (.cells ((List.replicate n (Value.int .i8 0)).toArray ++ (List.replicate m (Value.int .i8 0)).toArray) 134 (0, 0))) :
    (Builtin.clear_ #[91] ty #[.slice (some ⟨g, 0, none⟩) n G]).run Tryz.prog W = .ok (.tuple #[]) W := by
  obtain ⟨i0, hi0, hz0, hz1, hz2⟩ := info_parts infoVer
  have hst := run_storeCells_at (P := Tryz.prog) g 0 134 (List.replicate n (Value.int .i8 0)) 0 _ W h (by simp) (by intro v hv; rw [List.eq_of_mem_replicate hv]; rfl)
  have e1 : ((((List.replicate n (Value.int .i8 0)).toArray ++ (List.replicate m (Value.int .i8 0)).toArray).toList.take (0 + 0) ++ List.replicate n (Value.int .i8 0) ++ ((List.replicate n (Value.int .i8 0)).toArray ++ (List.replicate m (Value.int .i8 0)).toArray).toList.drop (0 + 0 + (List.replicate n (Value.int .i8 0)).length))).toArray = (List.replicate n (Value.int .i8 0)).toArray ++ (List.replicate m (Value.int .i8 0)).toArray := by
    simp [List.drop_append]
  rw [e1, setRow_self W g _ _ (0, 0) h] at hst
  have hz : (Builtin.zeroCells (Value.int .i8 0).cells n).toList = List.replicate n (Value.int .i8 0) := by
    have e : (Value.int .i8 0).cells = #[Value.int .i8 0] := rfl
    rw [e, zeros_one]
  obtain ⟨n', rfl⟩ : ∃ n', n = n' + 1 := ⟨n - 1, by omega⟩
  simp [Builtin.clear_, run_underlying Tryz.underlying91, zeroValue, typeInfo, hi0, hz0, hz, hst]

theorem rowV_new {n m G g base : Nat} {w : World} (h : w.heap[g]? = some (.cells ((List.replicate n (Value.int .i8 0)).toArray ++ (List.replicate m (Value.int .i8 0)).toArray) 134 (0, 0))) (hm : m = G - n) (hn : n ≤ G) (hG : G ≤ maxLen) (hb : base ≤ g) : RowV base g n G (List.replicate n 0) w := by
  refine ⟨by simp, Or.inr ⟨g, G, _, rfl, hb, h, hn, hG, by simp; omega, by simp [List.take_append]⟩⟩

set_option maxRecDepth 100000 in
set_option maxHeartbeats 4000000 in
theorem start_calls (P : Nat) (o0 o1 oa ob : Value) (aa ab : Option Addr) (la lb ca cb : Nat) (w : World) (h0 : w.cell? ⟨P, 0, none⟩ = some oa) (h1 : w.cell? ⟨P, 1, none⟩ = some ob) (h2 : w.cell? ⟨P, 2, none⟩ = some (.slice none 0 0))
    (f0 : w.frozen? ⟨P, 0, none⟩ = false) (f1 : w.frozen? ⟨P, 1, none⟩ = false) (f2 : w.frozen? ⟨P, 2, none⟩ = false) (hla : 0 < la) (hlb : 0 < lb) (hla2 : la ≤ 200) (hlb2 : lb ≤ 200) :
    Calls Tryz.prog 61 #[.pointer (some ⟨P, 0, none⟩), .slice aa la ca, .slice ab lb cb] w fun e w' => ∃ G, e = .returned (.tuple #[]) ∧
      w'.cell? ⟨P, 0, none⟩ = some (.slice aa la ca) ∧ w'.cell? ⟨P, 1, none⟩ = some (.slice ab lb cb) ∧ w'.cell? ⟨P, 2, none⟩ = some (.slice (some ⟨w.heap.size, 0, none⟩) (2 * (la * lb)) G) ∧
      RowV w.heap.size w.heap.size (2 * (la * lb)) G (List.replicate (2 * (la * lb)) 0) w' ∧ Only w w' (fun b => b = P) := by
  obtain ⟨q, hq⟩ : ∃ q, 2 * (la * lb) = q := ⟨_, rfl⟩
  have hqb : q ≤ 80000 := by rw [← hq]; have := Nat.mul_le_mul hla2 hlb2; omega
  have hq0 : 0 < q := by rw [← hq]; have := Nat.mul_pos hla hlb; omega
  have hqi : 2 * (la : Int) * (lb : Int) = (q : Int) := by rw [← hq]; push_cast; rw [Int.mul_assoc]
  have hqa : (2 : Int) * (la : Int) ≤ 400 := by omega
  rw [hq]
  have hPb := block_of_cell h0
  go_enter Tryz.func61, Tryz.ntmps61
  go_wp2_with fail
  have e0 : ((w.setCell ⟨P, 0, none⟩ (.slice aa la ca)).setCell ⟨P, 1, none⟩ (.slice ab lb cb)).cell? ⟨P, 0, none⟩ = some (.slice aa la ca) := by
    rw [World.cell?_setCell_other _ _ _ _ (fun e => by injection e with _ e _; cases e)]
    exact World.cell?_setCell_same _ _ _ h0
  have e1 : ((w.setCell ⟨P, 0, none⟩ (.slice aa la ca)).setCell ⟨P, 1, none⟩ (.slice ab lb cb)).cell? ⟨P, 1, none⟩ = some (.slice ab lb cb) :=
    World.cell?_setCell_same _ _ _ ((World.cell?_setCell_other _ _ _ _ (fun e => by injection e with _ e _; cases e)).trans h1)
  have e2 : ((w.setCell ⟨P, 0, none⟩ (.slice aa la ca)).setCell ⟨P, 1, none⟩ (.slice ab lb cb)).cell? ⟨P, 2, none⟩ = some (.slice none 0 0) := by
    rw [World.cell?_setCell_other _ _ _ _ (fun e => by injection e with _ e _; cases e), World.cell?_setCell_other _ _ _ _ (fun e => by injection e with _ e _; cases e)]
    exact h2
  have e3 : ((w.setCell ⟨P, 0, none⟩ (.slice aa la ca)).setCell ⟨P, 1, none⟩ (.slice ab lb cb)).frozen? ⟨P, 2, none⟩ = false := by
    rw [World.frozen?_setCell, World.frozen?_setCell]; exact f2
  have e4 : ((w.setCell ⟨P, 0, none⟩ (.slice aa la ca)).setCell ⟨P, 1, none⟩ (.slice ab lb cb)).heap.size = w.heap.size := by simp
  have HO : Hid (Only w ((w.setCell ⟨P, 0, none⟩ (.slice aa la ca)).setCell ⟨P, 1, none⟩ (.slice ab lb cb)) (fun b => b = P)) := Lib.hid ((Only.of_set (F := fun b => b = P) _ rfl).trans (Only.of_set (F := fun b => b = P) _ rfl) (fun _ _ h => h))
  clear h0 h1 h2 f0 f1 f2
  refine (grow_calls q _ hq0 (by omega)).mono ?_
  generalize ((w.setCell ⟨P, 0, none⟩ (.slice aa la ca)).setCell ⟨P, 1, none⟩ (.slice ab lb cb)) = W0 at e0 e1 e2 e3 e4 HO ⊢
  rintro e w4 ⟨G, m, hG1, hG2, hm, rfl, hw4⟩
  rw [e4]
  have hb4 : Below W0.heap.size W0 w4 := by rw [hw4]; exact (below_drewN (Below.refl _ _) 1).alloc (Nat.le_refl _) _
  have hh4 : w4.heap[w.heap.size]? = some (.cells ((List.replicate q (Value.int .i8 0)).toArray ++ (List.replicate m (Value.int .i8 0)).toArray) 134 (0, 0)) := by
    rw [hw4, ← e4]
    exact heap_alloc_last W0.drew _
  have hs4 : w4.heap.size = w.heap.size + 1 := by rw [hw4, ← e4]; simp
  have e0 := (bcell hb4 _ _ (by omega)).trans e0
  have e1 := (bcell hb4 _ _ (by omega)).trans e1
  have e2 := (bcell hb4 _ _ (by omega)).trans e2
  have e3 := (hb4.frozen (p := ⟨P, 2, none⟩) (by rw [e4]; exact hPb)).trans e3
  have HO4 : Hid (Only w w4 (fun b => b = P)) := Lib.hid (HO.out.trans (Only.of_below hb4) (fun _ _ h => h))
  have hG63 : (G : Int) ≤ 9223372036854775807 := by unfold maxLen at hG2; omega
  have hqG : (q : Int) ≤ G := by omega
  clear hw4 hb4 HO
  have hne : w.heap.size ≠ P := by omega
  have hh5 : (w4.setCell ⟨P, 2, none⟩ (.slice (some ⟨w.heap.size, 0, none⟩) q G)).heap[w.heap.size]? = some (.cells ((List.replicate q (Value.int .i8 0)).toArray ++ (List.replicate m (Value.int .i8 0)).toArray) 134 (0, 0)) :=
    (Below.heap_setCell w4 ⟨P, 2, none⟩ _ w.heap.size hne).trans hh4
  have HCL := run_clear w.heap.size q m G hq0 (w4.setCell ⟨P, 2, none⟩ (.slice (some ⟨w.heap.size, 0, none⟩) q G)) 0 hh5
  have HR := Lib.hid (rowV_new (base := w.heap.size) hh5 hm.out hG1 hG2 (Nat.le_refl _))
  have HO5 : Hid (Only w (w4.setCell ⟨P, 2, none⟩ (.slice (some ⟨w.heap.size, 0, none⟩) q G)) (fun b => b = P)) := Lib.hid (HO4.out.trans (Only.of_set (F := fun b => b = P) _ rfl) (fun _ _ h => h))
  have e5 : Hid ((w4.setCell ⟨P, 2, none⟩ (.slice (some ⟨w.heap.size, 0, none⟩) q G)).cell? ⟨P, 0, none⟩ = some (.slice aa la ca)) := Lib.hid ((World.cell?_setCell_other _ _ _ _ (fun e => by injection e with _ e _; cases e)).trans e0)
  have e6 : Hid ((w4.setCell ⟨P, 2, none⟩ (.slice (some ⟨w.heap.size, 0, none⟩) q G)).cell? ⟨P, 1, none⟩ = some (.slice ab lb cb)) := Lib.hid ((World.cell?_setCell_other _ _ _ _ (fun e => by injection e with _ e _; cases e)).trans e1)
  have e7 : Hid ((w4.setCell ⟨P, 2, none⟩ (.slice (some ⟨w.heap.size, 0, none⟩) q G)).cell? ⟨P, 2, none⟩ = some (.slice (some ⟨w.heap.size, 0, none⟩) q G)) := Lib.hid (World.cell?_setCell_same _ _ _ e2)
  clear hh4 hh5 HO4 e0 e1
  go_wp2_with fail
  go_end0
  exact ⟨G, rfl, e5.out, e6.out, e7.out, HR.out, HO5.out⟩
end

section
open Go.RowKit
set_option linter.unusedVariables false
set_option linter.unusedSimpArgs false

theorem goodI_res (v : Value) (f : List Nz) (r : Bool) (hr : Hid (goodB f = r)) (w : World) (lo hi : Nat) (hh : hi ≤ w.heap.size) (hv : NodesZ w lo hi v f) :
    Calls Tryz.prog 28 #[.agg #[v]] w fun e w' => e = .returned (.bool r) ∧ Below w.heap.size w w' := by
  rw [← hr.out]
  exact goodI_calls v f w lo hi hh hv

set_option maxRecDepth 100000 in
set_option maxHeartbeats 2000000 in
theorem contest_bad (va vb : Value) (f g : List Nz) (r1 r2 : Bool) (h1 : Hid (goodB f = r1)) (h2 : Hid (goodB g = r2)) (hb : (r1 && r2) = false) (w : World) (lo hi lo' hi' : Nat) (hh : hi ≤ w.heap.size) (hh' : hi' ≤ w.heap.size) (hva : NodesZ w lo hi va f) (hvb : NodesZ w lo' hi' vb g) :
    Calls Tryz.prog 30 #[.agg #[va], .agg #[vb]] w fun e w' => e = .returned (.tuple #[.pointer none, .bool false]) ∧ Below w.heap.size w w' := by
  have HB0 := Lib.hid fun o o' => show Below w.heap.size w ((w.alloc o).alloc o') from ((Below.refl _ _).alloc (Nat.le_refl _) _).alloc (by simp) _
  have CA := Lib.hid fun (W : World) (hW : Below w.heap.size w W) => goodI_res va f r1 h1 W lo hi (Nat.le_trans hh hW.size) (hva.below hW hh)
  have CB := Lib.hid fun (W : World) (hW : Below w.heap.size w W) => goodI_res vb g r2 h2 W lo' hi' (Nat.le_trans hh' hW.size) (hvb.below hW hh')
  clear h1 h2 hva hvb
  go_enter Tryz.func30, Tryz.ntmps30
  go_wp2_with fail
  refine (CA.out _ (HB0.out _ _)).mono ?_
  rintro e w4 ⟨rfl, hb4⟩
  have k2 : w4.cell? ⟨w.heap.size + 1, 0, none⟩ = some vb := (bcell hb4 _ _ (by simp)).trans (by go_simp)
  have HB4 := Lib.hid (Below.trans (HB0.out _ _) (hb4.mono (by simp; omega)))
  clear hb4 CA
  cases r1 with
  | false =>
    go_wp2_with fail
    exact bodyPost_ret (v := .tuple #[.pointer none, .bool false]) (by simp [results, Tryz.results30, go_sem]) rfl ⟨rfl, HB4.out⟩
  | true =>
    obtain rfl : r2 = false := by simpa using hb
    go_wp2_with fail
    refine (CB.out _ HB4.out).mono ?_
    rintro e w5 ⟨rfl, hb5⟩
    have HB5 := Lib.hid (HB4.out.trans (hb5.mono HB4.out.size))
    clear hb5
    go_wp2_with fail
    exact bodyPost_ret (v := .tuple #[.pointer none, .bool false]) (by simp [results, Tryz.results30, go_sem]) rfl ⟨rfl, HB5.out⟩

theorem zeros_wn (A B : List Nd) (n : Nat) (hn : n = 2 * (A.length * B.length)) : Wn A B (List.replicate n 0) := by rw [hn]; exact Wn.zero A B

/-- a contest that is there, from a world on -/
def Held (w w' : World) (P : Nat) (A B : List Nd) (va vb : Value) : Prop := ∃ g n cap cs, Ct w' w.heap.size P g n cap A B va vb ∧ Wn A B cs ∧ RowV w.heap.size g n cap cs w' ∧ Below w.heap.size w w'

set_option maxRecDepth 100000 in
set_option maxHeartbeats 2000000 in
theorem contest_good (va vb : Value) (f g : List Nz) (h1 : goodB f = true) (h2 : goodB g = true) (w : World) (lo hi lo' hi' : Nat) (hh : hi ≤ w.heap.size) (hh' : hi' ≤ w.heap.size) (hva : NodesZ w lo hi va f) (hvb : NodesZ w lo' hi' vb g) :
    Calls Tryz.prog 30 #[.agg #[va], .agg #[vb]] w fun e w' => ∃ P, e = .returned (.tuple #[.pointer (some ⟨P, 0, none⟩), .bool true]) ∧ Held w w' P (f.map downN) (g.map downN) va vb := by
  obtain ⟨hf1, hf2, _⟩ := (goodB_iff f).1 h1
  obtain ⟨hg1, hg2, _⟩ := (goodB_iff g).1 h2
  have HNA : Hid (NodesZ w 0 w.heap.size va ((f.map downN).map upN)) := Lib.hid (by rw [hf2.up.1]; exact hva.wide (Nat.zero_le _) hh)
  have HNB : Hid (NodesZ w 0 w.heap.size vb ((g.map downN).map upN)) := Lib.hid (by rw [hg2.up.1]; exact hvb.wide (Nat.zero_le _) hh')
  have HB0 := Lib.hid fun o o' => show Below w.heap.size w ((w.alloc o).alloc o') from ((Below.refl _ _).alloc (Nat.le_refl _) _).alloc (by simp) _
  have CA := Lib.hid fun (W : World) (hW : Below w.heap.size w W) => goodI_res va f true (Lib.hid h1) W lo hi (Nat.le_trans hh hW.size) (hva.below hW hh)
  have CB := Lib.hid fun (W : World) (hW : Below w.heap.size w W) => goodI_res vb g true (Lib.hid h2) W lo' hi' (Nat.le_trans hh' hW.size) (hvb.below hW hh')
  obtain ⟨aa, ca, rfl⟩ : ∃ ao c, va = .slice ao f.length c := by obtain ⟨ao, c, e, _⟩ := hva; exact ⟨ao, c, e⟩
  obtain ⟨ab, cb, rfl⟩ : ∃ ao c, vb = .slice ao g.length c := by obtain ⟨ao, c, e, _⟩ := hvb; exact ⟨ao, c, e⟩
  have la0 := hf1.1
  have la1 := hf1.2.1
  have lb0 := hg1.1
  have lb1 := hg1.2.1
  clear h1 h2 hva hvb hf1 hf2 hg1 hg2
  go_enter Tryz.func30, Tryz.ntmps30
  go_wp2_with fail
  refine (CA.out _ (HB0.out _ _)).mono ?_
  rintro e w4 ⟨rfl, hb4⟩
  have k1 : w4.cell? ⟨w.heap.size, 0, none⟩ = some (.slice aa f.length ca) := (bcell hb4 _ _ (by simp; omega)).trans (by go_simp)
  have k2 : w4.cell? ⟨w.heap.size + 1, 0, none⟩ = some (.slice ab g.length cb) := (bcell hb4 _ _ (by simp)).trans (by go_simp)
  have HB4 := Lib.hid (Below.trans (HB0.out _ _) (hb4.mono (by simp; omega)))
  clear hb4 CA
  have b1 := block_of_cell k1
  have b2 := block_of_cell k2
  go_wp2_with fail
  refine (CB.out _ HB4.out).mono ?_
  rintro e w5 ⟨rfl, hb5⟩
  have k1 := (bcell hb5 _ _ b1).trans k1
  have k2 := (bcell hb5 _ _ b2).trans k2
  have HB5 := Lib.hid (HB4.out.trans (hb5.mono HB4.out.size))
  clear hb5 b1 b2
  have hba : Below w5.heap.size w5 (w5.alloc (.cells #[.slice none 0 0, .slice none 0 0, .slice none 0 0] 93)) := (Below.refl _ _).alloc (Nat.le_refl _) _
  have d1 := (bcell hba _ _ (block_of_cell k1)).trans k1
  have d2 := (bcell hba _ _ (block_of_cell k2)).trans k2
  have p0 : (w5.alloc (.cells #[.slice none 0 0, .slice none 0 0, .slice none 0 0] 93)).cell? ⟨w5.heap.size, 0, none⟩ = some (.slice none 0 0) := by go_simp
  have p1 : (w5.alloc (.cells #[.slice none 0 0, .slice none 0 0, .slice none 0 0] 93)).cell? ⟨w5.heap.size, 1, none⟩ = some (.slice none 0 0) := by go_simp
  have p2 : (w5.alloc (.cells #[.slice none 0 0, .slice none 0 0, .slice none 0 0] 93)).cell? ⟨w5.heap.size, 2, none⟩ = some (.slice none 0 0) := by go_simp
  have q0 : (w5.alloc (.cells #[.slice none 0 0, .slice none 0 0, .slice none 0 0] 93)).frozen? ⟨w5.heap.size, 0, none⟩ = false := by go_simp
  have q1 : (w5.alloc (.cells #[.slice none 0 0, .slice none 0 0, .slice none 0 0] 93)).frozen? ⟨w5.heap.size, 1, none⟩ = false := by go_simp
  have q2 : (w5.alloc (.cells #[.slice none 0 0, .slice none 0 0, .slice none 0 0] 93)).frozen? ⟨w5.heap.size, 2, none⟩ = false := by go_simp
  have HB6 : Hid (Below w.heap.size w (w5.alloc (.cells #[.slice none 0 0, .slice none 0 0, .slice none 0 0] 93))) := Lib.hid (HB5.out.trans (hba.mono HB5.out.size))
  have hs6 : (w5.alloc (.cells #[.slice none 0 0, .slice none 0 0, .slice none 0 0] 93)).heap.size = w5.heap.size + 1 := by simp
  have hs5 := HB5.out.size
  have CS := Lib.hid (start_calls w5.heap.size (.bool true) (.bool true) _ _ aa ab f.length g.length ca cb _ p0 p1 p2 q0 q1 q2 la0 lb0 (by omega) (by omega))
  clear hba p0 p1 p2 q0 q1 q2 CB
  go_wp2_with fail
  refine CS.out.mono ?_
  rintro e w7 ⟨G, rfl, c0, c1, c2, hr, ho⟩
  have HH : Hid (Held w w7 w5.heap.size (f.map downN) (g.map downN) (.slice aa f.length ca) (.slice ab g.length cb)) := Lib.hid (by
    have hs7 := ho.size
    rw [hs6] at c2 hr hs7
    have hbx : Below w.heap.size w w7 := HB6.out.trans (ho.below (by rw [hs6]; omega) (fun b e => by omega))
    have el : 2 * (f.length * g.length) = 2 * ((f.map downN).length * (g.map downN).length) := by simp
    have hn := Below.sameIn (lo := 0) hbx (Nat.le_refl _)
    refine ⟨w5.heap.size + 1, _, G, _, ⟨c0, c1, c2, HNA.out.keep hn, HNB.out.keep hn, by omega, hr.lt.2, by omega⟩, zeros_wn _ _ _ el, World.ownsRow.mono hr (by omega), hbx⟩)
  clear c0 c1 c2 hr ho
  go_wp2_with fail
  exact bodyPost_ret (v := .tuple #[.pointer (some ⟨w5.heap.size, 0, none⟩), .bool true]) (by simp [results, Tryz.results30, go_sem]) rfl ⟨_, rfl, HH.out⟩
end

section
open Go.RowKit
set_option linter.unusedVariables false
set_option linter.unusedSimpArgs false

/-- who wins the difference of two games -/
def diffF (f g : List Nz) (l : Bool) : Bool := winF (f.map downN) (g.map downN) (f.length - 1) (g.length - 1) l

theorem held1 {w w' : World} {b : Nat} {v : Value} (h : w.cell? ⟨b, 0, none⟩ = some v) (hb : b < w.heap.size) (hB : Below w.heap.size w w') : w'.cell? ⟨b, 0, none⟩ = some v ∧ Below w.heap.size w w' := ⟨(bcell hB b 0 hb).trans h, hB⟩
end

section
open Go.RowKit Go.Lib
set_option linter.unusedVariables false
set_option linter.unusedSimpArgs false

set_option maxHeartbeats 1000000 in
theorem winsFirst_calls (base P g n cap : Nat) (A B : List Nd) (va vb : Value) (hA : Under A) (hB : Under B) (hAl : A.length ≤ 1000) (hBl : B.length ≤ 1000) (l : Bool) (w : World) (h0 : 0 < A.length) (h1 : 0 < B.length)
    (h : Ct w base P g n cap A B va vb) (cs : List Int) (hw : Wn A B cs) (hr : RowV base g n cap cs w) (r : Bool) (hres : Hid (winF A B (A.length - 1) (B.length - 1) l = r)) :
    Calls Tryz.prog 31 #[.pointer (some ⟨P, 0, none⟩), .bool l] w fun e w' => e = .returned (.bool r) ∧ Asked base g n cap A B w w' := by
  obtain ⟨a1, b1, rfl⟩ : ∃ ao c, va = .slice ao A.length c := by obtain ⟨ao, c, e, _⟩ := h.na; rw [List.length_map] at e; exact ⟨ao, c, e⟩
  obtain ⟨a2, b2, rfl⟩ : ∃ ao c, vb = .slice ao B.length c := by obtain ⟨ao, c, e, _⟩ := h.nb; rw [List.length_map] at e; exact ⟨ao, c, e⟩
  have k0 := h.c0
  have k1 := h.c1
  have hd : Below w.heap.size w w.drew := below_drewN (Below.refl w.heap.size w) 1
  have C := Lib.hid <| (wins_calls base P g n cap A B _ _ hA hB hAl hBl (A.length - 1 + (B.length - 1) + 1) (A.length - 1) (B.length - 1) l cs w.drew (by omega) (by omega) (by omega) (h.below hd) hw (hr.below hd)).mono fun e w' hp => (⟨by rw [← hres.out]; exact hp.1, Asked.trans ⟨cs, hw, hr.below hd, Only.of_below hd⟩ hp.2⟩ : e = .returned (.bool r) ∧ Asked base g n cap A B w w')
  have e1 : (A.length : Int) - 1 = ((A.length - 1 : Nat) : Int) := by omega
  have e2 : (B.length : Int) - 1 = ((B.length - 1 : Nat) : Int) := by omega
  have q1 : (A.length : Int) ≤ 1000 := by omega
  have q2 : (B.length : Int) ≤ 1000 := by omega
  have w1 : IntKind.i64.wrap ((A.length : Int) - 1) = ((A.length - 1 : Nat) : Int) := by rw [IntWalk.i64_in _ (by omega), e1]
  have w2 : IntKind.i64.wrap ((B.length : Int) - 1) = ((B.length - 1 : Nat) : Int) := by rw [IntWalk.i64_in _ (by omega), e2]
  clear h hw hr hres hA hB hd e1 e2
  go_enter Tryz.func31, Tryz.ntmps31
  go_wp2_with fail
  go_region_with (go_at_call 62; (with_reducible refine C.out.mono ?_); rintro e w4 ⟨rfl, ha⟩; have HA := Lib.hid ha; clear ha)
  all_goals
    go_wp2_with fail
    go_ret
    exact ⟨rfl, HA.out⟩

/-- what is asked of a contest, from a world on -/
theorem held_first {w w1 : World} {P : Nat} {f g : List Nz} {va vb : Value} (h : Held w w1 P (f.map downN) (g.map downN) va vb) (h1 : goodB f = true) (h2 : goodB g = true) (l r : Bool) (hr : Hid (winF (f.map downN) (g.map downN) (f.length - 1) (g.length - 1) l = r)) :
    Calls Tryz.prog 31 #[.pointer (some ⟨P, 0, none⟩), .bool l] w1 fun e w' => e = .returned (.bool r) ∧ Below w.heap.size w w' := by
  obtain ⟨gg, n, cap, cs, hc, hw, hrow, hb⟩ := h
  obtain ⟨hf1, hf2, _⟩ := (goodB_iff f).1 h1
  obtain ⟨hg1, hg2, _⟩ := (goodB_iff g).1 h2
  have e1 : (f.map downN).length = f.length := by simp
  have e2 : (g.map downN).length = g.length := by simp
  refine (winsFirst_calls w.heap.size P gg n cap (f.map downN) (g.map downN) va vb hf2.up.2.under hg2.up.2.under (by rw [e1]; have := hf1.2.1; omega) (by rw [e2]; have := hg1.2.1; omega) l w1 (by rw [e1]; exact hf1.1) (by rw [e2]; exact hg1.1) hc cs hw hrow r (by rw [e1, e2]; exact hr)).mono ?_
  rintro e w' ⟨he, ha⟩
  exact ⟨he, hb.trans (ha.only.below hb.size (fun b e => by have := hc.hg; omega))⟩
end

section
set_option linter.unusedVariables false
set_option linter.unusedSimpArgs false

/-- at least: Right, moving first, does not win the difference -/
def geW (A B : List Nd) (i j : Nat) : Bool := !winF A B i j false

theorem winF_turn (A B : List Nd) (hA : Under A) (hB : Under B) : ∀ n i j, i + j < n → ∀ l, winF A B i j l = winF B A j i (!l) := by
  intro n
  induction n with
  | zero => intro i j h; omega
  | succ n ih =>
    intro i j h l
    rw [winF_eq A B hA hB, winF_eq B A hB hA]
    rw [Bool.or_comm, Bool.not_not]
    congr 1
    · exact any_congr _ _ _ fun o ho => by
        have := optsD_lt hB ho
        rw [ih i o (by omega), Bool.not_not]
    · exact any_congr _ _ _ fun o ho => by
        have := optsD_lt hA ho
        rw [ih o j (by omega), Bool.not_not]

theorem ge_step {A B : List Nd} (hA : Under A) (hB : Under B) (i j : Nat) : geW A B i j = true ↔ (∀ r ∈ optsD A i false, geW B A j r = false) ∧ (∀ l ∈ optsD B j true, geW B A l i = false) := by
  unfold geW
  rw [winF_eq A B hA hB]
  simp only [Bool.not_false, Bool.not_eq_true', Bool.or_eq_false_iff, List.any_eq_false, Bool.not_eq_true, Bool.not_eq_false']
  constructor
  · rintro ⟨h1, h2⟩
    refine ⟨fun r hr => ?_, fun l hl => ?_⟩
    · have := h1 r hr
      rw [winF_turn A B hA hB _ r j (Nat.lt_succ_self _)] at this
      simpa using this
    · have := h2 l hl
      rw [winF_turn A B hA hB _ i l (Nat.lt_succ_self _)] at this
      simpa using this
  · rintro ⟨h1, h2⟩
    refine ⟨fun r hr => ?_, fun l hl => ?_⟩
    · rw [winF_turn A B hA hB _ r j (Nat.lt_succ_self _)]
      simpa using h1 r hr
    · rw [winF_turn A B hA hB _ i l (Nat.lt_succ_self _)]
      simpa using h2 l hl

theorem ge_refl {A : List Nd} (hA : Under A) : ∀ i, geW A A i i = true := by
  intro i
  induction i using Nat.strongRecOn with
  | ind i ih =>
    refine (ge_step hA hA i i).2 ⟨fun r hr => ?_, fun l hl => ?_⟩
    · have hlt := optsD_lt hA hr
      cases h : geW A A i r with
      | false => rfl
      | true =>
        have := ((ge_step hA hA i r).1 h).1 r hr
        rw [ih r hlt] at this
        cases this
    · have hlt := optsD_lt hA hl
      cases h : geW A A l i with
      | false => rfl
      | true =>
        have := ((ge_step hA hA l i).1 h).2 l hl
        rw [ih l hlt] at this
        cases this

theorem ge_trans_n : ∀ (n : Nat) (A B C : List Nd), Under A → Under B → Under C → ∀ i j k, i + j + k < n → geW A B i j = true → geW B C j k = true → geW A C i k = true := by
  intro n
  induction n with
  | zero => intro A B C _ _ _ i j k h; omega
  | succ n ih =>
    intro A B C hA hB hC i j k h h1 h2
    refine (ge_step hA hC i k).2 ⟨fun r hr => ?_, fun l hl => ?_⟩
    · have hlt := optsD_lt hA hr
      cases h3 : geW C A k r with
      | false => rfl
      | true =>
        have h4 := ih B C A hB hC hA j k r (by omega) h2 h3
        rw [((ge_step hA hB i j).1 h1).1 r hr] at h4
        cases h4
    · have hlt := optsD_lt hC hl
      cases h3 : geW C A l i with
      | false => rfl
      | true =>
        have h4 := ih C A B hC hA hB l i j (by omega) h3 h1
        rw [((ge_step hB hC j k).1 h2).2 l hl] at h4
        cases h4
theorem ge_trans {A B C : List Nd} (hA : Under A) (hB : Under B) (hC : Under C) {i j k : Nat} (h1 : geW A B i j = true) (h2 : geW B C j k = true) : geW A C i k = true := ge_trans_n _ A B C hA hB hC i j k (Nat.lt_succ_self _) h1 h2
end

section
open Go.RowKit
set_option linter.unusedVariables false
set_option linter.unusedSimpArgs false

theorem atLeastI_calls (va vb : Value) (f g : List Nz) (a ok : Bool) (hok : Hid ((goodB f && goodB g) = ok)) (ha : Hid ((goodB f && goodB g && !diffF f g false) = a)) (w : World) (lo hi lo' hi' : Nat) (hh : hi ≤ w.heap.size) (hh' : hi' ≤ w.heap.size) (hva : NodesZ w lo hi va f) (hvb : NodesZ w lo' hi' vb g) :
    Calls Tryz.prog 11 #[.agg #[va], .agg #[vb]] w fun e w' => e = .returned (.tuple #[.bool a, .bool ok]) ∧ Below w.heap.size w w' := by
  have HB0 := Lib.hid fun o o' => show Below w.heap.size w ((w.alloc o).alloc o') from ((Below.refl _ _).alloc (Nat.le_refl _) _).alloc (by simp) _
  have HVA := Lib.hid fun (W : World) (hW : Below w.heap.size w W) => hva.below hW hh
  have HVB := Lib.hid fun (W : World) (hW : Below w.heap.size w W) => hvb.below hW hh'
  clear hva hvb
  cases ok with
  | false =>
    obtain rfl : a = false := by rw [← ha.out, hok.out]; rfl
    obtain ⟨r1, h1⟩ : ∃ r, goodB f = r := ⟨_, rfl⟩
    obtain ⟨r2, h2⟩ : ∃ r, goodB g = r := ⟨_, rfl⟩
    have hb : (r1 && r2) = false := by rw [← h1, ← h2]; exact hok.out
    have C := Lib.hid fun (W : World) (hW : Below w.heap.size w W) => contest_bad va vb f g r1 r2 (Lib.hid h1) (Lib.hid h2) hb W lo hi lo' hi' (Nat.le_trans hh hW.size) (Nat.le_trans hh' hW.size) (HVA.out W hW) (HVB.out W hW)
    clear h1 h2 hb
    go_enter Tryz.func11, Tryz.ntmps11
    go_wp2_with fail
    refine (C.out _ (HB0.out _ _)).mono ?_
    rintro e w4 ⟨rfl, hb4⟩
    have HB4 := Lib.hid (Below.trans (HB0.out _ _) (hb4.mono (by simp; omega)))
    clear hb4
    go_wp2_with fail
    exact bodyPost_ret (v := .tuple #[.bool false, .bool false]) (by simp [results, Tryz.results11, go_sem]) rfl ⟨rfl, HB4.out⟩
  | true =>
    have hg := hok.out
    rw [Bool.and_eq_true] at hg
    have ha2 : (!diffF f g false) = a := by rw [← ha.out, hg.1, hg.2]; rfl
    have hr : diffF f g false = !a := by rw [← ha2]; simp
    have C := Lib.hid fun (W : World) (hW : Below w.heap.size w W) => contest_good va vb f g hg.1 hg.2 W lo hi lo' hi' (Nat.le_trans hh hW.size) (Nat.le_trans hh' hW.size) (HVA.out W hW) (HVB.out W hW)
    have CF := Lib.hid fun (W w1 : World) (P : Nat) (h : Held W w1 P (f.map downN) (g.map downN) va vb) => held_first h hg.1 hg.2 false (!a) (Lib.hid hr)
    clear hg ha2 hr
    go_enter Tryz.func11, Tryz.ntmps11
    go_wp2_with fail
    refine (C.out _ (HB0.out _ _)).mono ?_
    rintro e w4 ⟨P, rfl, hH⟩
    have C2 := Lib.hid (CF.out _ w4 P hH)
    clear hH CF
    go_wp2_with fail
    refine C2.out.mono ?_
    rintro e w5 ⟨rfl, hb5⟩
    have HB5 := Lib.hid (Below.trans (HB0.out _ _) (hb5.mono (by simp; omega)))
    clear hb5 C2
    go_wp2_with fail
    exact bodyPost_ret (v := .tuple #[.bool a, .bool true]) (by simp [results, Tryz.results11, go_sem]) rfl ⟨rfl, HB5.out⟩
end

end Go.Proofs.YtiacgcpcgabdoaaGreat
