/- The program's contest, as it lies in memory. -/
import Derived.Test.YtiacgcpcgabdoaaOrTab
import Derived.Test.YtiacgcpcgabdoaaFmBk
import Derived.IntWalk
import Derived.StillTailTactics
import Derived.Test.YtiacgcpcgabdoaaFmTo
import Derived.Lib.AppendZerosOnto
import Derived.Lib.SliceRun
import Derived.Deep.WholeRow
import Derived.Lib.Walk
import Derived.Test.YtiacgcpcgabdoaaOrMath
import Derived.Test.YtiacgcpcgabdoaaFmReach
import Derived.Test.YtiacgcpcgabdoaaFmAdd
import Derived.Deep.Onto
import Derived.Test.YtiacgcpcgabdoaaFmGoodI
import Derived.Test.YtiacgcpcgabdoaaFmBase
import Derived.Test.YtiacgcpcgabdoaaFmLaw
import Derived.Test.YtiacgcpcgabdoaaGsR
namespace Go.Proofs.Ytiacgcpcgabdoaa
section
open Go.RowKit
set_option linter.unusedVariables false
set_option linter.unusedSimpArgs false

theorem options_calls (v1 v2 : Value) (left : Bool) (w : World) :
    Calls Try.prog 107 #[.agg #[v1, v2], .bool left] w fun e w' => e = .returned (if left then v1 else v2) ∧ Below w.heap.size w w' := by
  have HB := Lib.hid fun o => show Below w.heap.size w (w.alloc o) from (Below.refl _ _).alloc (Nat.le_refl _) _
  cases left with
  | true =>
    go_enter Try.func107, Try.ntmps107
    go_wp2
    go_ret
    exact ⟨rfl, HB.out _⟩
  | false =>
    go_enter Try.func107, Try.ntmps107
    go_wp2
    go_ret
    exact ⟨rfl, HB.out _⟩

/-- the table of answers -/
def RowV (base g n cap : Nat) (cs : List Int) (w : World) : Prop := w.ownsRow base 107 1 (.slice (some ⟨g, 0, none⟩) n cap) n (cs.map (Value.int .i8))

theorem RowV.at_ {base g n cap x : Nat} {v : Int} {cs : List Int} {w : World} (h : RowV base g n cap cs w) (hx : cs[x]? = some v) : w.cell? ⟨g, x, none⟩ = some (.int .i8 v) ∧ w.frozen? ⟨g, x, none⟩ = false := by
  have hl : (cs.map (Value.int .i8)).length = n * 1 := h.1
  have hlt := get_lt hx
  rw [List.length_map] at hl
  have h2 := World.ownsRow.cellAt h x (by omega)
  refine ⟨?_, World.ownsRow.frozenAt h x⟩
  rw [h2, List.getElem?_map, hx]
  rfl

theorem RowV.put {base g n cap x : Nat} {v : Int} {cs : List Int} {w : World} (h : RowV base g n cap cs w) :
    RowV base g n cap (cs.set x v) (w.setCell ⟨g, x, none⟩ (.int .i8 v)) ∧ Only w (w.setCell ⟨g, x, none⟩ (.int .i8 v)) (fun b => b = g) := by
  have h2 := World.ownsRow.stored h x (.int .i8 v)
  rw [← List.map_set] at h2
  exact ⟨h2.1, Only.of_set _ rfl⟩

theorem RowV.lt {base g n cap : Nat} {cs : List Int} {w : World} (h : RowV base g n cap cs w) : base ≤ g ∧ g < w.heap.size := World.ownsRow.lt h g rfl

theorem RowV.below {base g n cap : Nat} {cs : List Int} {w w' : World} (h : RowV base g n cap cs w) (hb : Below w.heap.size w w') : RowV base g n cap cs w' :=
  own_only h (Only.of_below (F := fun _ => False) hb) (fun _ _ => id)

/-- a contest of two games -/
structure Ct (w : World) (base P g n cap : Nat) (A B : List Nd) (va vb : Value) : Prop where
  c0 : w.cell? ⟨P, 0, none⟩ = some va
  c1 : w.cell? ⟨P, 1, none⟩ = some vb
  c2 : w.cell? ⟨P, 2, none⟩ = some (.slice (some ⟨g, 0, none⟩) n cap)
  na : NodesZ w 0 base va (A.map upN)
  nb : NodesZ w 0 base vb (B.map upN)
  hg : base ≤ g
  hgl : g < w.heap.size
  hP : P ≠ g

theorem Only.sameIn {w w' : World} {F : Nat → Prop} {hi : Nat} (h : Only w w' F) (hl : hi ≤ w.heap.size) (hF : ∀ b, b < hi → ¬ F b) : SameIn 0 hi w w' := fun b o _ h2 => h.cell (by omega) (hF b h2)

theorem Ct.only {w w' : World} {base P g n cap : Nat} {A B : List Nd} {va vb : Value} (h : Ct w base P g n cap A B va vb) (ho : Only w w' (fun b => b = g)) : Ct w' base P g n cap A B va vb := by
  have hP := block_of_cell h.c0
  have h1 := h.hg
  have h2 := h.hgl
  have hs : SameIn 0 base w w' := ho.sameIn (by omega) (fun b hb e => by omega)
  exact ⟨(ho.cell hP h.hP).trans h.c0, (ho.cell hP h.hP).trans h.c1, (ho.cell hP h.hP).trans h.c2, h.na.keep hs, h.nb.keep hs, h.hg, Nat.lt_of_lt_of_le h.hgl ho.size, h.hP⟩

theorem Ct.below {w w' : World} {base P g n cap : Nat} {A B : List Nd} {va vb : Value} (h : Ct w base P g n cap A B va vb) (hb : Below w.heap.size w w') : Ct w' base P g n cap A B va vb := h.only (Only.of_below hb)

/-- what a question of the contest leaves -/
def Asked (base g n cap : Nat) (A B : List Nd) (w w' : World) : Prop := ∃ cs, Wn A B cs ∧ RowV base g n cap cs w' ∧ Only w w' (fun b => b = g)

/-- a node of a slice of nodes of numbers, cell by cell -/
theorem nodes_at {w : World} {lo hi : Nat} {v : Value} {A : List Nd} (h : NodesZ w lo hi v (A.map upN)) {i : Nat} {nd : Nd} (hi' : A[i]? = some nd) :
    ∃ b off c v1 v2, v = .slice (some ⟨b, off, none⟩) A.length c ∧ b < hi ∧ w.cell? ⟨b, off + i * 2, none⟩ = some v1 ∧ w.cell? ⟨b, off + i * 2 + 1, none⟩ = some v2 ∧ IntsZ w lo hi v1 (upL nd.1) ∧ IntsZ w lo hi v2 (upL nd.2) := by
  obtain ⟨ao, c, rfl, _, h3⟩ := h
  obtain ⟨b, off, v1, v2, rfl, _, hb, p1, p2, i1, i2⟩ := h3 i (upN nd) (by rw [List.getElem?_map, hi']; rfl)
  exact ⟨b, off, c, v1, v2, by rw [List.length_map], hb, p1, p2, i1, i2⟩
end

section
open Go.RowKit
set_option linter.unusedVariables false
set_option linter.unusedSimpArgs false

/-- wins, for the pairs of a lesser sum -/
def WinsB (base P g n cap : Nat) (A B : List Nd) (va vb : Value) (s : Nat) : Prop := ∀ (i j : Nat) (l : Bool) (cs : List Int) (w : World), i + j < s → i < A.length → j < B.length → Ct w base P g n cap A B va vb → Wn A B cs → RowV base g n cap cs w →
  Calls Try.prog 58 #[.pointer (some ⟨P, 0, none⟩), .int .i64 i, .int .i64 j, .bool l] w fun e w' => e = .returned (.bool (winF A B i j l)) ∧ Asked base g n cap A B w w'

theorem Asked.trans {base g n cap : Nat} {A B : List Nd} {w w1 w2 : World} (h : Asked base g n cap A B w w1) (k : Asked base g n cap A B w1 w2) : Asked base g n cap A B w w2 := by
  obtain ⟨_, _, _, h3⟩ := h
  obtain ⟨cs, k1, k2, k3⟩ := k
  exact ⟨cs, k1, k2, h3.trans k3 (fun _ _ h => h)⟩

theorem Asked.only {base g n cap : Nat} {A B : List Nd} {w w1 : World} (h : Asked base g n cap A B w w1) : Only w w1 (fun b => b = g) := by obtain ⟨_, _, _, h3⟩ := h; exact h3

theorem Asked.below {base g n cap : Nat} {A B : List Nd} {w w1 w2 : World} (h : Asked base g n cap A B w w1) (hb : Below w1.heap.size w1 w2) : Asked base g n cap A B w w2 := by
  obtain ⟨cs, k1, k2, h3⟩ := h
  exact ⟨cs, k1, k2.below hb, h3.trans (Only.of_below hb) (fun _ _ h => h)⟩

theorem Asked.same {base g n cap : Nat} {A B : List Nd} {w w1 : World} (h : Asked base g n cap A B w w1) (hg : base ≤ g) (hl : g < w.heap.size) : SameIn 0 base w w1 := h.only.sameIn (by omega) (fun b hb e => by omega)

theorem ints_len {w : World} {lo hi : Nat} {v : Value} {l : List Nat} (h : IntsZ w lo hi v (upL l)) : ∃ ao c, v = .slice ao l.length c ∧ (l.length ≤ c ∧ c ≤ 9223372036854775807) := by
  obtain ⟨ao, c, rfl, h2, _⟩ := h
  have : (upL l).length = l.length := by unfold upL; simp
  rw [this] at h2 ⊢
  exact ⟨ao, c, rfl, h2⟩

theorem ints_at {w : World} {lo hi : Nat} {ao : Option Addr} {n c : Nat} {l : List Nat} (h : IntsZ w lo hi (.slice ao n c) (upL l)) {k x : Nat} (hx : l[k]? = some x) : ∃ b off, ao = some ⟨b, off, none⟩ ∧ b < hi ∧ w.cell? ⟨b, off + k, none⟩ = some (.int .i64 (x : Int)) := by
  obtain ⟨ao', c', e, _, h3⟩ := h
  injection e with e1 _ _
  subst e1
  obtain ⟨b, off, e, _, hb, hc⟩ := h3 k (x : Int) (by unfold upL; rw [List.getElem?_map, hx]; rfl)
  exact ⟨b, off, e, hb, hc⟩

set_option maxRecDepth 100000 in
set_option maxHeartbeats 4000000 in
theorem search_calls (base P g n cap : Nat) (A B : List Nd) (va vb : Value) (hA : Under A) (hB : Under B) (i j : Nat) (l : Bool) (IH : WinsB base P g n cap A B va vb (i + j)) (cs : List Int) (w : World) (hi : i < A.length) (hj : j < B.length)
    (h : Ct w base P g n cap A B va vb) (hw : Wn A B cs) (hr : RowV base g n cap cs w) :
    Calls Try.prog 85 #[.pointer (some ⟨P, 0, none⟩), .int .i64 i, .int .i64 j, .bool l] w fun e w' => e = .returned (.int .i8 (wiC A B i j l)) ∧ Asked base g n cap A B w w' := by
  obtain ⟨x, hx⟩ := lt_get hi
  obtain ⟨y, hy⟩ := lt_get hj
  obtain ⟨b1, o1, c1, v1, v2, rfl, hb1, p1, p2, i1, i2⟩ := nodes_at h.na hx
  obtain ⟨b2, o2, c2, u1, u2, rfl, hb2, q1, q2, j1, j2⟩ := nodes_at h.nb hy
  have hbz := h.hg
  have hbz2 := h.hgl
  have k0 := h.c0
  have HC0 := Lib.hid h
  have L1 : Hid (optsD A i l = if l then x.1 else x.2) := Lib.hid (by unfold optsD; rw [nodeD_at hx])
  have L2 : Hid (optsD B j (!l) = if !l then y.1 else y.2) := Lib.hid (by unfold optsD; rw [nodeD_at hy])
  have HW : Hid (winF A B i j l = ((optsD A i l).any (fun o => !winF A B o j (!l)) || (optsD B j (!l)).any (fun o => !winF A B i o (!l)))) := Lib.hid (winF_eq A B hA hB i j l)
  have HL1 : Hid (∀ o, o ∈ optsD A i l → o < i) := Lib.hid (fun o ho => optsD_lt hA ho)
  have HL2 : Hid (∀ o, o ∈ optsD B j (!l) → o < j) := Lib.hid (fun o ho => optsD_lt hB ho)
  have HIH := Lib.hid IH
  have HQ1 := Lib.hid q1
  have HQ2 := Lib.hid q2
  have HJ1 := Lib.hid j1
  have HJ2 := Lib.hid j2
  clear IH hA hB hx hy q1 q2 j1 j2
  go_enter Try.func85, Try.ntmps85
  go_wp2_with fail
  refine (options_calls v1 v2 l w).mono ?_
  rintro e w1 ⟨rfl, hb⟩
  obtain ⟨vo, Lo, hvo, hio, hLo⟩ : ∃ vo Lo, (if l then v1 else v2) = vo ∧ IntsZ w1 0 base vo (upL Lo) ∧ Hid (optsD A i l = Lo) := by
    cases l with
    | true => exact ⟨v1, x.1, rfl, i1.below hb (by omega), Lib.hid (by rw [L1.out]; rfl)⟩
    | false => exact ⟨v2, x.2, rfl, i2.below hb (by omega), Lib.hid (by rw [L1.out]; rfl)⟩
  rw [hvo]
  rw [hLo.out] at HW HL1
  have HC := Lib.hid (h.below hb)
  have HA : Hid (Asked base g n cap A B w w1) := Lib.hid ⟨cs, hw, hr.below hb, Only.of_below hb⟩
  obtain ⟨ao, co, rfl, hco⟩ := ints_len hio
  have HIO := Lib.hid hio
  clear h hr hb i1 i2 p1 p2 k0 hvo L1 hio hw hLo
  go_wp2
  go_loopw [23] (fun q wr => ∃ k : Nat, k ≤ Lo.length ∧ q = .int .i64 k ∧ Hid ((Lo.take k).any (fun o => !winF A B o j (!l)) = false) ∧ Hid (Asked base g n cap A B w wr) ∧ Hid (Ct wr base P g n cap A B (.slice (some ⟨b1, o1, none⟩) A.length c1) (.slice (some ⟨b2, o2, none⟩) B.length c2)) ∧ Hid (IntsZ wr 0 base (.slice ao Lo.length co) (upL Lo))) (fun q _ => Lo.length - (intOf q).toNat)
  case atStart => exact ⟨0, Nat.zero_le _, rfl, Lib.hid (by simp), HA, HC, HIO⟩
  case round =>
    obtain ⟨k, hk, rfl, hany, ha, hc, hio⟩ := hrel
    clear HA HC HIO
    have hgl := ha.out.only.size
    by_cases hlt : k < Lo.length
    · obtain ⟨o, ho⟩ := lt_get hlt
      have hoi := HL1.out o (List.mem_of_getElem? ho)
      obtain ⟨b, off, rfl, hbb, hcell⟩ := ints_at hio.out ho
      obtain ⟨r, hr⟩ : ∃ r, winF A B o j (!l) = r := ⟨_, rfl⟩
      have C := Lib.hid (show ∀ W, Below wr.heap.size wr W → Calls Try.prog 58 #[.pointer (some ⟨P, 0, none⟩), .int .i64 o, .int .i64 j, .bool (!l)] W fun e w' => e = .returned (.bool r) ∧ Asked base g n cap A B W w' from fun W hW => by
        obtain ⟨cs', h1, h2, h3⟩ := ha.out
        rw [← hr]
        exact HIH.out o j (!l) cs' W (by omega) (by omega) hj (hc.out.below hW) h1 (h2.below hW))
      have HO := Lib.hid ho
      have HRR := Lib.hid hr
      clear ho hr
      have b0 : (0 : Int) ≤ k := by omega
      have b1' : (k : Int) < Lo.length := by omega
      cases r with
      | false =>
        have R : Hid (wiC A B i j l = 1) := Lib.hid (by
          unfold wiC
          rw [HW.out, any_at Lo _ k o HO.out (by simp [HRR.out])]
          rfl)
        go_wp2_with fail
        refine (C.out _ (Below.refl _ _)).mono ?_
        rintro e w2 ⟨rfl, ha2⟩
        have HA2 := Lib.hid (ha.out.trans ha2)
        clear ha2
        go_wp2_with fail
        go_ret
        exact ⟨ret_int R.out.symm, HA2.out⟩
      | true =>
        have R : Hid ((Lo.take (k + 1)).any (fun o => !winF A B o j (!l)) = false) := Lib.hid (any_take_false Lo _ k o HO.out hany.out (by simp [HRR.out]))
        go_wp2_with fail
        refine (C.out _ (Below.refl _ _)).mono ?_
        rintro e w2 ⟨rfl, ha2⟩
        have HA2 := Lib.hid (ha.out.trans ha2)
        have HC2 := Lib.hid (hc.out.only ha2.only)
        have HI2 := Lib.hid (hio.out.keep (ha2.same hbz (by omega)))
        clear ha2
        go_wp2_with fail
        go_roundw
        case rel => exact ⟨k + 1, by omega, by go_num, R, HA2, HC2, HI2⟩
        case measure => simp [intOf]; omega
    · have HAN : Hid (Lo.any (fun o => !winF A B o j (!l)) = false) := Lib.hid (by
        have := hany.out
        rwa [List.take_of_length_le (by omega)] at this)
      clear hany hio HL1
      obtain ⟨W1, hW1⟩ : ∃ W, W = wr := ⟨_, rfl⟩
      subst hW1
      have hsm := ha.out.same hbz hbz2
      have k1 := hc.out.c1
      have p1 := (hsm b2 (o2 + j * 2) (Nat.zero_le _) hb2).trans HQ1.out
      have p2 := (hsm b2 (o2 + j * 2 + 1) (Nat.zero_le _) hb2).trans HQ2.out
      have i1 := Lib.hid (HJ1.out.keep hsm)
      have i2 := Lib.hid (HJ2.out.keep hsm)
      have bj : (j : Int) < B.length := by omega
      clear hsm HQ1 HQ2 HJ1 HJ2 HC0
      go_wp2_with fail
      refine (options_calls u1 u2 (!l) W1).mono ?_
      rintro e w2 ⟨rfl, hb⟩
      obtain ⟨vo, Lp, hvo, hio, hLo⟩ : ∃ vo Lp, (if !l then u1 else u2) = vo ∧ IntsZ w2 0 base vo (upL Lp) ∧ Hid (optsD B j (!l) = Lp) := by
        cases l with
        | false => exact ⟨u1, y.1, rfl, i1.out.below hb (by omega), Lib.hid (by rw [L2.out]; rfl)⟩
        | true => exact ⟨u2, y.2, rfl, i2.out.below hb (by omega), Lib.hid (by rw [L2.out]; rfl)⟩
      rw [hvo]
      rw [hLo.out] at HW HL2
      have HC := Lib.hid (hc.out.below hb)
      have HA : Hid (Asked base g n cap A B w w2) := Lib.hid (ha.out.below hb)
      obtain ⟨ap, cp, rfl, hcp⟩ := ints_len hio
      have HIO := Lib.hid hio
      clear hb i1 i2 p1 p2 k1 hvo L2 hio hLo ha hc
      go_wp2
      go_loopw [46] (fun q wr => ∃ k : Nat, k ≤ Lp.length ∧ q = .int .i64 k ∧ Hid ((Lp.take k).any (fun o => !winF A B i o (!l)) = false) ∧ Hid (Asked base g n cap A B w wr) ∧ Hid (Ct wr base P g n cap A B (.slice (some ⟨b1, o1, none⟩) A.length c1) (.slice (some ⟨b2, o2, none⟩) B.length c2)) ∧ Hid (IntsZ wr 0 base (.slice ap Lp.length cp) (upL Lp))) (fun q _ => Lp.length - (intOf q).toNat)
      case atStart => exact ⟨0, Nat.zero_le _, rfl, Lib.hid (by simp), HA, HC, HIO⟩
      case round =>
        obtain ⟨m, hm, rfl, hany, ha, hc, hio⟩ := hrel
        clear HA HC HIO
        have hgl := ha.out.only.size
        by_cases hlt2 : m < Lp.length
        · obtain ⟨o, ho⟩ := lt_get hlt2
          have hoi := HL2.out o (List.mem_of_getElem? ho)
          obtain ⟨b, off, rfl, hbb, hcell⟩ := ints_at hio.out ho
          obtain ⟨r, hr⟩ : ∃ r, winF A B i o (!l) = r := ⟨_, rfl⟩
          have C := Lib.hid (show ∀ W, Below wr.heap.size wr W → Calls Try.prog 58 #[.pointer (some ⟨P, 0, none⟩), .int .i64 i, .int .i64 o, .bool (!l)] W fun e w' => e = .returned (.bool r) ∧ Asked base g n cap A B W w' from fun W hW => by
            obtain ⟨cs', h1, h2, h3⟩ := ha.out
            rw [← hr]
            exact HIH.out i o (!l) cs' W (by omega) hi (by omega) (hc.out.below hW) h1 (h2.below hW))
          have HO := Lib.hid ho
          have HRR := Lib.hid hr
          clear ho hr
          have b0 : (0 : Int) ≤ m := by omega
          have b1' : (m : Int) < Lp.length := by omega
          cases r with
          | false =>
            have R : Hid (wiC A B i j l = 1) := Lib.hid (by
              unfold wiC
              rw [HW.out, any_at Lp _ m o HO.out (by simp [HRR.out]), Bool.or_true]
              rfl)
            go_wp2_with fail
            refine (C.out _ (Below.refl _ _)).mono ?_
            rintro e w3 ⟨rfl, ha2⟩
            have HA2 := Lib.hid (ha.out.trans ha2)
            clear ha2
            go_wp2_with fail
            go_ret
            exact ⟨ret_int R.out.symm, HA2.out⟩
          | true =>
            have R : Hid ((Lp.take (m + 1)).any (fun o => !winF A B i o (!l)) = false) := Lib.hid (any_take_false Lp _ m o HO.out hany.out (by simp [HRR.out]))
            go_wp2_with fail
            refine (C.out _ (Below.refl _ _)).mono ?_
            rintro e w3 ⟨rfl, ha2⟩
            have HA2 := Lib.hid (ha.out.trans ha2)
            have HC2 := Lib.hid (hc.out.only ha2.only)
            have HI2 := Lib.hid (hio.out.keep (ha2.same hbz (by omega)))
            clear ha2
            go_wp2_with fail
            go_roundw
            case rel => exact ⟨m + 1, by omega, by go_num, R, HA2, HC2, HI2⟩
            case measure => simp [intOf]; omega
        · have R : Hid (wiC A B i j l = 2) := Lib.hid (by
            have := hany.out
            rw [List.take_of_length_le (by omega)] at this
            unfold wiC
            rw [HW.out, HAN.out, this]
            rfl)
          clear hany hio
          go_wp2_with fail
          go_ret
          exact ⟨ret_int R.out.symm, ha.out⟩

theorem asked_put {base P g n cap : Nat} {A B : List Nd} {va vb : Value} {w w2 : World} {i j p : Nat} {l : Bool} {wv : Int} (h : Ct w base P g n cap A B va vb) (ha : Asked base g n cap A B w w2) (hi : i < A.length) (hj : j < B.length) (hp : plc B.length i j l = p) (hwv : wiC A B i j l = wv) :
    w2.cell? ⟨P, 2, none⟩ = some (.slice (some ⟨g, 0, none⟩) n cap) ∧ (∃ u, w2.cell? ⟨g, p, none⟩ = some (.int .i8 u)) ∧ w2.frozen? ⟨g, p, none⟩ = false ∧ Hid (Asked base g n cap A B w (w2.setCell ⟨g, p, none⟩ (.int .i8 wv))) ∧
      (w2.setCell ⟨g, p, none⟩ (.int .i8 wv)).cell? ⟨P, 2, none⟩ = some (.slice (some ⟨g, 0, none⟩) n cap) ∧ (w2.setCell ⟨g, p, none⟩ (.int .i8 wv)).cell? ⟨g, p, none⟩ = some (.int .i8 wv) := by
  subst hp hwv
  have h2 := h.only ha.only
  obtain ⟨cs, hw, hr, ho⟩ := ha
  obtain ⟨v, hv⟩ := lt_get (l := cs) (i := plc B.length i j l) (by rw [hw.1]; exact plc_lt hi hj)
  obtain ⟨c0, f0⟩ := hr.at_ hv
  obtain ⟨hr2, ho2⟩ := hr.put (x := plc B.length i j l) (v := wiC A B i j l)
  exact ⟨h2.c2, ⟨v, c0⟩, f0, Lib.hid ⟨_, hw.set hi hj, hr2, ho.trans ho2 (fun _ _ h => h)⟩, (h2.only ho2).c2, World.cell?_setCell_same _ _ _ c0⟩

set_option maxRecDepth 100000 in
set_option maxHeartbeats 4000000 in
theorem wins_step (base P g n cap : Nat) (A B : List Nd) (va vb : Value) (hA : Under A) (hB : Under B) (hAl : A.length ≤ 1000) (hBl : B.length ≤ 1000) (i j : Nat) (l : Bool) (IH : WinsB base P g n cap A B va vb (i + j)) (cs : List Int) (w : World) (hi : i < A.length) (hj : j < B.length)
    (h : Ct w base P g n cap A B va vb) (hw : Wn A B cs) (hr : RowV base g n cap cs w) :
    Calls Try.prog 58 #[.pointer (some ⟨P, 0, none⟩), .int .i64 i, .int .i64 j, .bool l] w fun e w' => e = .returned (.bool (winF A B i j l)) ∧ Asked base g n cap A B w w' := by
  have hdr : Below w.heap.size w w.drew := below_drewN (Below.refl _ _) 1
  have C0 := (search_calls base P g n cap A B va vb hA hB i j l IH cs w.drew hi hj (h.below hdr) hw (hr.below hdr)).mono fun e w' hp => (⟨hp.1, Asked.trans ⟨cs, hw, hr.below hdr, Only.of_below hdr⟩ hp.2⟩ : e = .returned (.int .i8 (wiC A B i j l)) ∧ Asked base g n cap A B w w')
  clear hdr
  have hn : n = 2 * (A.length * B.length) := by have := hr.1; rw [List.length_map, hw.1] at this; omega
  have hp := plc_lt (l := l) hi hj
  obtain ⟨q, hq⟩ : ∃ q, i * B.length = q := ⟨_, rfl⟩
  have hqi : (i : Int) * (B.length : Int) = (q : Int) := by rw [← hq]; simp
  have hqb : q ≤ 1000000 := by rw [← hq]; exact Nat.le_trans (Nat.mul_le_mul (show i ≤ 1000 by omega) hBl) (by omega)
  obtain ⟨ao, c2, rfl, hcb⟩ := (show ∃ ao c, vb = .slice ao B.length c ∧ B.length ≤ c from by obtain ⟨ao, c, e, h1, _⟩ := h.nb; rw [List.length_map] at e h1; exact ⟨ao, c, e, h1.1⟩)
  have hlt : plc B.length i j l < n := by rw [hn]; exact hp
  obtain ⟨v, hv⟩ := lt_get (l := cs) (i := plc B.length i j l) (by rw [hw.1]; exact hp)
  have hent := hw.2 i j l hi hj
  rw [hv] at hent
  obtain ⟨c0, f0⟩ := hr.at_ hv
  obtain ⟨p0, hp0⟩ : ∃ p0, 2 * (q + j) = p0 := ⟨_, rfl⟩
  have hpi : 2 * ((q : Int) + (j : Int)) = (p0 : Int) := by omega
  have hpl : plc B.length i j l = p0 + ofB l := by unfold plc; rw [hq, hp0]
  have k1 := h.c1
  have k2 := h.c2
  have HA0 : Hid (Asked base g n cap A B w w) := Lib.hid ⟨cs, hw, hr, Only.refl _ _⟩
  obtain ⟨r, hwr⟩ : ∃ r, winF A B i j l = r := ⟨_, rfl⟩
  obtain ⟨wv, hwv⟩ : ∃ wv, wiC A B i j l = wv := ⟨_, rfl⟩
  have hwv2 : wv = if r then 1 else 2 := by rw [← hwv, ← hwr]; rfl
  have HF := Lib.hid fun w2 (ha : Asked base g n cap A B w w2) => asked_put h ha hi hj hpl hwv
  rw [hwr]
  rw [hwv] at C0 hent
  have C := Lib.hid C0
  rw [hpl] at hlt c0 f0
  have hjb : (j : Int) ≤ 1000 := by omega
  have hp0b : (p0 : Int) ≤ 2002000 := by omega
  have hp00 : (0 : Int) ≤ p0 := by omega
  clear hq hp0 hn hp hr hw hv hpl h IH hA hB C0 hwr hwv hAl hBl
  cases l with
  | false =>
    have e0 : p0 + ofB false = p0 := rfl
    rw [e0] at hlt c0 f0 HF
    have hltI : (p0 : Int) < n := by omega
    clear e0
    have hv2 : v = wv ∨ v = 0 := by
      rcases hent with e | e
      · right; injection e
      · left; injection e
    clear hent
    rcases hv2 with e | e
    · have v0 : (v == 0) = false := by rw [e, hwv2]; cases r <;> rfl
      have v1 : (v == 1) = r := by rw [e, hwv2]; cases r <;> rfl
      clear e hwv2 C HF
      go_enter Try.func58, Try.ntmps58
      go_wp2_with fail
      go_ret
      exact ⟨rfl, HA0.out⟩
    · subst e
      have v1 : (wv == 1) = r := by rw [hwv2]; cases r <;> rfl
      clear hwv2 HA0
      go_enter Try.func58, Try.ntmps58
      go_wp2_with fail
      go_region_with (go_at_call 85; (with_reducible refine C.out.mono ?_); rintro e w2 ⟨rfl, ha⟩; obtain ⟨d2, ⟨u, d0⟩, df, HA2, d3, d4⟩ := HF.out w2 ha; clear ha)
      all_goals
        go_wp2_with fail
        go_ret
        exact ⟨rfl, HA2.out⟩
  | true =>
    have e0 : p0 + ofB true = p0 + 1 := rfl
    rw [e0] at hlt c0 f0 HF
    have hltI : (p0 : Int) + 1 < n := by omega
    clear e0
    have hv2 : v = wv ∨ v = 0 := by
      rcases hent with e | e
      · right; injection e
      · left; injection e
    clear hent
    rcases hv2 with e | e
    · have v0 : (v == 0) = false := by rw [e, hwv2]; cases r <;> rfl
      have v1 : (v == 1) = r := by rw [e, hwv2]; cases r <;> rfl
      clear e hwv2 C HF
      go_enter Try.func58, Try.ntmps58
      go_wp2_with fail
      go_ret
      exact ⟨rfl, HA0.out⟩
    · subst e
      have v1 : (wv == 1) = r := by rw [hwv2]; cases r <;> rfl
      clear hwv2 HA0
      go_enter Try.func58, Try.ntmps58
      go_wp2_with fail
      go_region_with (go_at_call 85; (with_reducible refine C.out.mono ?_); rintro e w2 ⟨rfl, ha⟩; obtain ⟨d2, ⟨u, d0⟩, df, HA2, d3, d4⟩ := HF.out w2 ha; clear ha)
      all_goals
        go_wp2_with fail
        go_ret
        exact ⟨rfl, HA2.out⟩

theorem wins_calls (base P g n cap : Nat) (A B : List Nd) (va vb : Value) (hA : Under A) (hB : Under B) (hAl : A.length ≤ 1000) (hBl : B.length ≤ 1000) : ∀ s, WinsB base P g n cap A B va vb s
  | 0 => fun i j l cs w h => by omega
  | s + 1 => fun i j l cs w hs hi hj h hw hr => by
    have IH := wins_calls base P g n cap A B va vb hA hB hAl hBl s
    exact wins_step base P g n cap A B va vb hA hB hAl hBl i j l (fun i' j' l' cs' w' hs' hi' hj' h' hw' hr' => IH i' j' l' cs' w' (by omega) hi' hj' h' hw' hr') cs w hi hj h hw hr
end

section
open Go.RowKit Go.Lib
set_option linter.unusedVariables false
set_option linter.unusedSimpArgs false

theorem infoVer : (Try.prog.info? 107).map (fun i => (i.zero, i.size, i.bytes)) = some (some (.int .i8 0), 1, 1) := by kernel_rfl

theorem zeros_one (z : Value) (n : Nat) : Builtin.zeroCells #[z] n = (List.replicate n z).toArray := by
  apply Array.ext
  · simp [Builtin.zeroCells]
  · intro i h1 h2
    simp [Builtin.zeroCells, Nat.mod_one]

set_option maxRecDepth 100000 in
set_option maxHeartbeats 4000000 in
theorem grow_calls (n : Nat) (w : World) (h0 : 0 < n) (hn : n ≤ 100000) :
    Calls Try.prog 74 #[.slice none 0 0, .int .i64 n] w fun e w' => ∃ G m, n ≤ G ∧ G ≤ maxLen ∧ Hid (m = G - n) ∧ e = .returned (.slice (some ⟨w.heap.size, 0, none⟩) 0 G) ∧
      w' = w.drew.alloc (.cells ((List.replicate n (Value.int .i8 0)).toArray ++ (List.replicate m (Value.int .i8 0)).toArray) 107) := by
  obtain ⟨i0, hi0, hz0, hz1, hz2⟩ := info_parts infoVer
  have hrz : ∀ ty, (Builtin.append_ #[71, 3] ty #[.slice none 0 0, .int .i64 (n : Int)]).run Try.prog w =
      .ok (.slice (some ⟨w.heap.size, 0, none⟩) n (grownCap w n 0 107)) (w.drew.alloc (.cells ((List.replicate n (Value.int .i8 0)).toArray ++ (List.replicate (grownCap w n 0 107 - n) (Value.int .i8 0)).toArray) 107)) := fun ty => by
    have h := Lib.run_append_grow_zeros w 71 3 ty 107 i0 (.int .i8 0) .i64 .i64 Try.underlying71 Try.underlying3 hi0 hz0 none 0 0 [] (run_firstCells_none w.drew i0.size 0 0 0) n (by omega) (by omega) (by omega) (by omega)
      (by rw [hz2]; omega) (by rw [Nat.zero_add]; exact growslice_fits (by omega) (by rw [hz2]; omega))
    rw [Nat.zero_add] at h
    have e : (Value.int .i8 0).cells = #[Value.int .i8 0] := rfl
    rw [e, zeros_one, zeros_one] at h
    simpa using h
  have hGn : n ≤ grownCap w n 0 107 := grownCap_ge w _ _ _
  have hGm := grownCap_le_maxLen w n 0 107 (by unfold maxLen; omega)
  obtain ⟨G, hG⟩ : ∃ G, grownCap w n 0 107 = G := ⟨_, rfl⟩
  rw [hG] at hrz hGn hGm
  obtain ⟨m, hm⟩ : ∃ m, G - n = m := ⟨_, rfl⟩
  rw [hm] at hrz
  have HM := Lib.hid hm
  have h1 : ¬ ((n : Int) < 0) := by omega
  have h4 : (n : Int) > 0 := by omega
  have hG63 : (G : Int) ≤ 9223372036854775807 := by unfold maxLen at hGm; omega
  clear hG hm hi0 hz0 hz1 hz2
  go_enter Try.func74, Try.ntmps74
  go_wp2_with (at_builtin; refine Lib.wpList_append_run _ rfl _ _ _ _ rfl _ _ rfl rfl _ _ (hrz _) ?_)
  all_goals (go_ret; exact ⟨G, hGn, hGm, m, Lib.hid HM.out.symm, rfl, rfl⟩)

theorem run_clear (g n m G : Nat) (h0 : 0 < n) (W : World) (ty : TypeId) (h : W.heap[g]? = some (.cells ((List.replicate n (Value.int .i8 0)).toArray ++ (List.replicate m (Value.int .i8 0)).toArray) 107 (0, 0))) :
    (Builtin.clear_ #[71] ty #[.slice (some ⟨g, 0, none⟩) n G]).run Try.prog W = .ok (.tuple #[]) W := by
  obtain ⟨i0, hi0, hz0, hz1, hz2⟩ := info_parts infoVer
  have hst := run_storeCells_at (P := Try.prog) g 0 107 (List.replicate n (Value.int .i8 0)) 0 _ W h (by simp) (by intro v hv; rw [List.eq_of_mem_replicate hv]; rfl)
  have e1 : ((((List.replicate n (Value.int .i8 0)).toArray ++ (List.replicate m (Value.int .i8 0)).toArray).toList.take (0 + 0) ++ List.replicate n (Value.int .i8 0) ++ ((List.replicate n (Value.int .i8 0)).toArray ++ (List.replicate m (Value.int .i8 0)).toArray).toList.drop (0 + 0 + (List.replicate n (Value.int .i8 0)).length))).toArray = (List.replicate n (Value.int .i8 0)).toArray ++ (List.replicate m (Value.int .i8 0)).toArray := by
    simp [List.drop_append]
  rw [e1, setRow_self W g _ _ (0, 0) h] at hst
  have hz : (Builtin.zeroCells (Value.int .i8 0).cells n).toList = List.replicate n (Value.int .i8 0) := by
    have e : (Value.int .i8 0).cells = #[Value.int .i8 0] := rfl
    rw [e, zeros_one]
  obtain ⟨n', rfl⟩ : ∃ n', n = n' + 1 := ⟨n - 1, by omega⟩
  simp [Builtin.clear_, run_underlying Try.underlying71, zeroValue, typeInfo, hi0, hz0, hz, hst]

theorem rowV_new {n m G g base : Nat} {w : World} (h : w.heap[g]? = some (.cells ((List.replicate n (Value.int .i8 0)).toArray ++ (List.replicate m (Value.int .i8 0)).toArray) 107 (0, 0))) (hm : m = G - n) (hn : n ≤ G) (hG : G ≤ maxLen) (hb : base ≤ g) : RowV base g n G (List.replicate n 0) w := by
  refine ⟨by simp, Or.inr ⟨g, G, _, rfl, hb, h, hn, hG, by simp; omega, by simp [List.take_append]⟩⟩

set_option maxRecDepth 100000 in
set_option maxHeartbeats 4000000 in
theorem start_calls (P : Nat) (o0 o1 oa ob : Value) (aa ab : Option Addr) (la lb ca cb : Nat) (w : World) (h0 : w.cell? ⟨P, 0, none⟩ = some oa) (h1 : w.cell? ⟨P, 1, none⟩ = some ob) (h2 : w.cell? ⟨P, 2, none⟩ = some (.slice none 0 0))
    (f0 : w.frozen? ⟨P, 0, none⟩ = false) (f1 : w.frozen? ⟨P, 1, none⟩ = false) (f2 : w.frozen? ⟨P, 2, none⟩ = false) (hla : 0 < la) (hlb : 0 < lb) (hla2 : la ≤ 200) (hlb2 : lb ≤ 200) :
    Calls Try.prog 46 #[.pointer (some ⟨P, 0, none⟩), .slice aa la ca, .slice ab lb cb] w fun e w' => ∃ G, e = .returned (.tuple #[]) ∧
      w'.cell? ⟨P, 0, none⟩ = some (.slice aa la ca) ∧ w'.cell? ⟨P, 1, none⟩ = some (.slice ab lb cb) ∧ w'.cell? ⟨P, 2, none⟩ = some (.slice (some ⟨w.heap.size, 0, none⟩) (2 * (la * lb)) G) ∧
      RowV w.heap.size w.heap.size (2 * (la * lb)) G (List.replicate (2 * (la * lb)) 0) w' ∧ Only w w' (fun b => b = P) := by
  obtain ⟨q, hq⟩ : ∃ q, 2 * (la * lb) = q := ⟨_, rfl⟩
  have hqb : q ≤ 80000 := by rw [← hq]; have := Nat.mul_le_mul hla2 hlb2; omega
  have hq0 : 0 < q := by rw [← hq]; have := Nat.mul_pos hla hlb; omega
  have hqi : 2 * (la : Int) * (lb : Int) = (q : Int) := by rw [← hq]; push_cast; rw [Int.mul_assoc]
  have hqa : (2 : Int) * (la : Int) ≤ 400 := by omega
  rw [hq]
  have hPb := block_of_cell h0
  go_enter Try.func46, Try.ntmps46
  go_wp2_with fail
  have e0 : ((w.setCell ⟨P, 0, none⟩ (.slice aa la ca)).setCell ⟨P, 1, none⟩ (.slice ab lb cb)).cell? ⟨P, 0, none⟩ = some (.slice aa la ca) := by
    rw [World.cell?_setCell_other _ _ _ _ (fun e => by injection e with _ e _; cases e)]
    exact World.cell?_setCell_same _ _ _ h0
  have e1 : ((w.setCell ⟨P, 0, none⟩ (.slice aa la ca)).setCell ⟨P, 1, none⟩ (.slice ab lb cb)).cell? ⟨P, 1, none⟩ = some (.slice ab lb cb) :=
    World.cell?_setCell_same _ _ _ ((World.cell?_setCell_other _ _ _ _ (fun e => by injection e with _ e _; cases e)).trans h1)
  have e2 : ((w.setCell ⟨P, 0, none⟩ (.slice aa la ca)).setCell ⟨P, 1, none⟩ (.slice ab lb cb)).cell? ⟨P, 2, none⟩ = some (.slice none 0 0) := by
    rw [World.cell?_setCell_other _ _ _ _ (fun e => by injection e with _ e _; cases e), World.cell?_setCell_other _ _ _ _ (fun e => by injection e with _ e _; cases e)]
    exact h2
  have e3 : ((w.setCell ⟨P, 0, none⟩ (.slice aa la ca)).setCell ⟨P, 1, none⟩ (.slice ab lb cb)).frozen? ⟨P, 2, none⟩ = false := by
    rw [World.frozen?_setCell, World.frozen?_setCell]; exact f2
  have e4 : ((w.setCell ⟨P, 0, none⟩ (.slice aa la ca)).setCell ⟨P, 1, none⟩ (.slice ab lb cb)).heap.size = w.heap.size := by simp
  have HO : Hid (Only w ((w.setCell ⟨P, 0, none⟩ (.slice aa la ca)).setCell ⟨P, 1, none⟩ (.slice ab lb cb)) (fun b => b = P)) := Lib.hid ((Only.of_set (F := fun b => b = P) _ rfl).trans (Only.of_set (F := fun b => b = P) _ rfl) (fun _ _ h => h))
  clear h0 h1 h2 f0 f1 f2
  refine (grow_calls q _ hq0 (by omega)).mono ?_
  generalize ((w.setCell ⟨P, 0, none⟩ (.slice aa la ca)).setCell ⟨P, 1, none⟩ (.slice ab lb cb)) = W0 at e0 e1 e2 e3 e4 HO ⊢
  rintro e w4 ⟨G, m, hG1, hG2, hm, rfl, hw4⟩
  rw [e4]
  have hb4 : Below W0.heap.size W0 w4 := by rw [hw4]; exact (below_drewN (Below.refl _ _) 1).alloc (Nat.le_refl _) _
  have hh4 : w4.heap[w.heap.size]? = some (.cells ((List.replicate q (Value.int .i8 0)).toArray ++ (List.replicate m (Value.int .i8 0)).toArray) 107 (0, 0)) := by
    rw [hw4, ← e4]
    exact heap_alloc_last W0.drew _
  have hs4 : w4.heap.size = w.heap.size + 1 := by rw [hw4, ← e4]; simp
  have e0 := (bcell hb4 _ _ (by omega)).trans e0
  have e1 := (bcell hb4 _ _ (by omega)).trans e1
  have e2 := (bcell hb4 _ _ (by omega)).trans e2
  have e3 := (hb4.frozen (p := ⟨P, 2, none⟩) (by rw [e4]; exact hPb)).trans e3
  have HO4 : Hid (Only w w4 (fun b => b = P)) := Lib.hid (HO.out.trans (Only.of_below hb4) (fun _ _ h => h))
  have hG63 : (G : Int) ≤ 9223372036854775807 := by unfold maxLen at hG2; omega
  have hqG : (q : Int) ≤ G := by omega
  clear hw4 hb4 HO
  have hne : w.heap.size ≠ P := by omega
  have hh5 : (w4.setCell ⟨P, 2, none⟩ (.slice (some ⟨w.heap.size, 0, none⟩) q G)).heap[w.heap.size]? = some (.cells ((List.replicate q (Value.int .i8 0)).toArray ++ (List.replicate m (Value.int .i8 0)).toArray) 107 (0, 0)) :=
    (Below.heap_setCell w4 ⟨P, 2, none⟩ _ w.heap.size hne).trans hh4
  have HCL := run_clear w.heap.size q m G hq0 (w4.setCell ⟨P, 2, none⟩ (.slice (some ⟨w.heap.size, 0, none⟩) q G)) 0 hh5
  have HR := Lib.hid (rowV_new (base := w.heap.size) hh5 hm.out hG1 hG2 (Nat.le_refl _))
  have HO5 : Hid (Only w (w4.setCell ⟨P, 2, none⟩ (.slice (some ⟨w.heap.size, 0, none⟩) q G)) (fun b => b = P)) := Lib.hid (HO4.out.trans (Only.of_set (F := fun b => b = P) _ rfl) (fun _ _ h => h))
  have e5 : Hid ((w4.setCell ⟨P, 2, none⟩ (.slice (some ⟨w.heap.size, 0, none⟩) q G)).cell? ⟨P, 0, none⟩ = some (.slice aa la ca)) := Lib.hid ((World.cell?_setCell_other _ _ _ _ (fun e => by injection e with _ e _; cases e)).trans e0)
  have e6 : Hid ((w4.setCell ⟨P, 2, none⟩ (.slice (some ⟨w.heap.size, 0, none⟩) q G)).cell? ⟨P, 1, none⟩ = some (.slice ab lb cb)) := Lib.hid ((World.cell?_setCell_other _ _ _ _ (fun e => by injection e with _ e _; cases e)).trans e1)
  have e7 : Hid ((w4.setCell ⟨P, 2, none⟩ (.slice (some ⟨w.heap.size, 0, none⟩) q G)).cell? ⟨P, 2, none⟩ = some (.slice (some ⟨w.heap.size, 0, none⟩) q G)) := Lib.hid (World.cell?_setCell_same _ _ _ e2)
  clear hh4 hh5 HO4 e0 e1
  go_wp2_with fail
  go_end0
  exact ⟨G, rfl, e5.out, e6.out, e7.out, HR.out, HO5.out⟩
end

section
open Go.RowKit Go.Lib
set_option linter.unusedVariables false
set_option linter.unusedSimpArgs false

set_option maxHeartbeats 1000000 in
theorem outcomeAt_calls (base P g n cap : Nat) (A B : List Nd) (va vb : Value) (hA : Under A) (hB : Under B) (hAl : A.length ≤ 1000) (hBl : B.length ≤ 1000) (i j : Nat) (hi : i < A.length) (hj : j < B.length) (w : World)
    (h : Ct w base P g n cap A B va vb) (cs : List Int) (hw : Wn A B cs) (hr : RowV base g n cap cs w) (r l : Bool) (hl : Hid (winF A B i j true = l)) (hres : Hid (winF A B i j false = r)) :
    Calls Try.prog 70 #[.pointer (some ⟨P, 0, none⟩), .int .i64 (i : Int), .int .i64 (j : Int)] w fun e w' => e = .returned (.int .i64 (codeOf (!r) (!l))) ∧ Asked base g n cap A B w w' := by
  have C := Lib.hid <| (wins_calls base P g n cap A B va vb hA hB hAl hBl (i + j + 1) i j true cs w (by omega) hi hj h hw hr).mono fun e w' hp => (⟨by rw [← hl.out]; exact hp.1, hp.2⟩ : e = .returned (.bool l) ∧ Asked base g n cap A B w w')
  have C2 := Lib.hid fun w4 (ha : Asked base g n cap A B w w4) => show Calls Try.prog 58 #[.pointer (some ⟨P, 0, none⟩), .int .i64 (i : Int), .int .i64 (j : Int), .bool false] w4 fun e w' => e = .returned (.bool r) ∧ Asked base g n cap A B w w' from by
    have hc := h.only ha.only
    have ha2 := ha
    obtain ⟨cs', hw', hr', ho'⟩ := ha
    exact (wins_calls base P g n cap A B va vb hA hB hAl hBl (i + j + 1) i j false cs' w4 (by omega) hi hj hc hw' hr').mono fun e w' hp => ⟨by rw [← hres.out]; exact hp.1, ha2.trans hp.2⟩
  have R := Lib.hid (code_win l r)
  clear h hw hr hl hres hA hB hi hj
  cases l <;> cases r <;>
  · go_enter Try.func70, Try.ntmps70
    go_wp2_with fail
    refine C.out.mono ?_
    rintro e w4 ⟨rfl, ha⟩
    have C3 := Lib.hid (C2.out w4 ha)
    clear ha
    go_wp2_with fail
    refine C3.out.mono ?_
    rintro e w5 ⟨rfl, ha⟩
    have HA := Lib.hid ha
    clear ha
    go_wp2_with fail
    go_ret
    exact ⟨ret_int (by rw [R.out]; rfl), HA.out⟩

set_option maxHeartbeats 1000000 in
theorem outcome_calls (base P g n cap : Nat) (A B : List Nd) (va vb : Value) (hA : Under A) (hB : Under B) (hAl : A.length ≤ 1000) (hBl : B.length ≤ 1000) (w : World) (h0 : 0 < A.length) (h1 : 0 < B.length)
    (h : Ct w base P g n cap A B va vb) (cs : List Int) (hw : Wn A B cs) (hr : RowV base g n cap cs w) (r l : Bool) (hl : Hid (winF A B (A.length - 1) (B.length - 1) true = l)) (hres : Hid (winF A B (A.length - 1) (B.length - 1) false = r)) :
    Calls Try.prog 40 #[.pointer (some ⟨P, 0, none⟩)] w fun e w' => e = .returned (.int .i64 (codeOf (!r) (!l))) ∧ Asked base g n cap A B w w' := by
  obtain ⟨a1, b1, rfl⟩ : ∃ ao c, va = .slice ao A.length c := by obtain ⟨ao, c, e, _⟩ := h.na; rw [List.length_map] at e; exact ⟨ao, c, e⟩
  obtain ⟨a2, b2, rfl⟩ : ∃ ao c, vb = .slice ao B.length c := by obtain ⟨ao, c, e, _⟩ := h.nb; rw [List.length_map] at e; exact ⟨ao, c, e⟩
  have k0 := h.c0
  have k1 := h.c1
  have hd : Below w.heap.size w w.drew := below_drewN (Below.refl w.heap.size w) 1
  have C := Lib.hid <| (outcomeAt_calls base P g n cap A B _ _ hA hB hAl hBl (A.length - 1) (B.length - 1) (by omega) (by omega) w.drew (h.below hd) cs hw (hr.below hd) r l hl hres).mono fun e w' hp => (⟨hp.1, Asked.trans ⟨cs, hw, hr.below hd, Only.of_below hd⟩ hp.2⟩ : e = .returned (.int .i64 (codeOf (!r) (!l))) ∧ Asked base g n cap A B w w')
  have e1 : (A.length : Int) - 1 = ((A.length - 1 : Nat) : Int) := by omega
  have e2 : (B.length : Int) - 1 = ((B.length - 1 : Nat) : Int) := by omega
  have q1 : (A.length : Int) ≤ 1000 := by omega
  have q2 : (B.length : Int) ≤ 1000 := by omega
  have w1 : IntKind.i64.wrap ((A.length : Int) - 1) = ((A.length - 1 : Nat) : Int) := by rw [IntWalk.i64_in _ (by omega), e1]
  have w2 : IntKind.i64.wrap ((B.length : Int) - 1) = ((B.length - 1 : Nat) : Int) := by rw [IntWalk.i64_in _ (by omega), e2]
  clear h hw hr hres hl hA hB hd e1 e2
  go_enter Try.func40, Try.ntmps40
  go_wp2_with fail
  go_region_with (go_at_call 70; (with_reducible refine C.out.mono ?_); rintro e w4 ⟨rfl, ha⟩; have HA := Lib.hid ha; clear ha)
  all_goals
    go_wp2_with fail
    go_ret
    exact ⟨rfl, HA.out⟩
end

section
open Go.RowKit
set_option linter.unusedVariables false
set_option linter.unusedSimpArgs false

/-- a row of signs that grows -/
def RowW (base : Nat) (g n c : Nat) (T : List Bool) (w : World) : Prop := w.ownsRow base 4 1 (.slice (some ⟨g, 0, none⟩) n c) n (T.map Value.bool)

theorem RowW.at_ {base g n c x : Nat} {v : Bool} {T : List Bool} {w : World} (h : RowW base g n c T w) (hx : T[x]? = some v) : w.cell? ⟨g, x, none⟩ = some (.bool v) := by
  have hl : (T.map Value.bool).length = n * 1 := h.1
  have hlt := get_lt hx
  rw [List.length_map] at hl
  rw [World.ownsRow.cellAt h x (by omega), List.getElem?_map, hx]
  rfl

theorem own_eq {g q n c : Nat} (e : (Value.slice (some ⟨g, 0, none⟩) n c).ownBlock = some q) : g = q := by injection e

theorem far_eq {g q n c o : Nat} (e : some (⟨q, o, none⟩ : Addr).block = (Value.slice (some ⟨g, 0, none⟩) n c).ownBlock) : q = g := by injection e

theorem nodes_at' {w : World} {lo hi n c0 : Nat} {ao : Option Addr} {A : List Nd} (h : NodesZ w lo hi (.slice ao n c0) (A.map upN)) {i : Nat} {nd : Nd} (hi' : A[i]? = some nd) :
    ∃ b off c v1 v2, Value.slice ao n c0 = .slice (some ⟨b, off, none⟩) A.length c ∧ b < hi ∧ w.cell? ⟨b, off + i * 2, none⟩ = some v1 ∧ w.cell? ⟨b, off + i * 2 + 1, none⟩ = some v2 ∧ IntsZ w lo hi v1 (upL nd.1) ∧ IntsZ w lo hi v2 (upL nd.2) := nodes_at h hi'

theorem ints_len' {w : World} {lo hi : Nat} {v : Value} {l : List Nat} (h : IntsZ w lo hi v (upL l)) : ∃ ao c, v = .slice ao l.length c ∧ (l.length ≤ c ∧ c ≤ 9223372036854775807) := by
  obtain ⟨ao, c, rfl, h2, _⟩ := h
  have : (upL l).length = l.length := by unfold upL; simp
  rw [this] at h2 ⊢
  exact ⟨ao, c, rfl, h2⟩

theorem ints_at' {w : World} {lo hi : Nat} {ao : Option Addr} {n c : Nat} {l : List Nat} (h : IntsZ w lo hi (.slice ao n c) (upL l)) {k x : Nat} (hx : l[k]? = some x) : ∃ b off, ao = some ⟨b, off, none⟩ ∧ b < hi ∧ w.cell? ⟨b, off + k, none⟩ = some (.int .i64 (x : Int)) := by
  obtain ⟨ao', c', e, _, h3⟩ := h
  injection e with e1 _ _
  subst e1
  obtain ⟨b, off, e, _, hb, hc⟩ := h3 k (x : Int) (by unfold upL; rw [List.getElem?_map, hx]; rfl)
  exact ⟨b, off, e, hb, hc⟩

theorem winsF_take (f : List Nd) (k : Nat) (nd : Nd) (h : f[k]? = some nd) : winsF (f.take (k + 1)) = ((winsF (f.take k)).1 ++ [nd.1.any (fun x => !(winsF (f.take k)).2.getD x false)], (winsF (f.take k)).2 ++ [nd.2.any (fun x => !(winsF (f.take k)).1.getD x false)]) := by
  rw [List.take_succ_eq_append_getElem (get_lt h)]
  rw [List.getElem?_eq_getElem (get_lt h)] at h
  injection h with h
  rw [h, winsF_snoc]

theorem any_take_snoc {α : Type} (l : List α) (p : α → Bool) (k : Nat) (x : α) (hx : l[k]? = some x) : (l.take (k + 1)).any p = ((l.take k).any p || p x) := by
  rw [List.take_add_one, hx, List.any_append]
  simp

theorem RowW.len {base g n c : Nat} {T : List Bool} {w : World} (h : RowW base g n c T w) : T.length = n := by
  have hl : (T.map Value.bool).length = n * 1 := h.1
  simpa using hl

theorem RowW.lt {base g n c : Nat} {T : List Bool} {w : World} (h : RowW base g n c T w) : base ≤ g ∧ g < w.heap.size := World.ownsRow.lt h g rfl

set_option maxRecDepth 100000 in
set_option maxHeartbeats 4000000 in
theorem l4Wins_calls (v : Value) (f : List Nd) (w : World) (lo hi : Nat) (hh : hi ≤ w.heap.size) (hv : NodesZ w lo hi v (f.map upN)) (hu : Under f) (hl : f.length ≤ 1000) :
    Calls Try.prog 94 #[.agg #[v]] w fun e w' => ∃ g1 c1 g2 c2, e = .returned (.tuple #[.slice (some ⟨g1, 0, none⟩) f.length c1, .slice (some ⟨g2, 0, none⟩) f.length c2]) ∧
      RowW w.heap.size g1 f.length c1 (winsF f).1 w' ∧ RowW w.heap.size g2 f.length c2 (winsF f).2 w' ∧ Below w.heap.size w w' := by
  obtain ⟨i0, hi0, hz0, hz1, hz2⟩ := info_parts infoBool
  have HV := Lib.hid hv
  have HU := Lib.hid hu
  obtain ⟨ao, c0, rfl, hlm, hnn⟩ := hv
  have hlu : (f.map upN).length = f.length := by simp
  rw [hlu] at HV hlm ⊢
  clear hu hlu hnn
  have HB0 : Hid (Below w.heap.size w (((w.alloc (.cells #[.slice ao f.length c0] 26)).alloc (.cells #[] 4)).alloc (.cells #[] 4))) := Lib.hid ((((Below.refl _ _).alloc (Nat.le_refl _) _).alloc (by simp) _).alloc (by simp; omega) _)
  have hd0 : (((w.alloc (.cells #[.slice ao f.length c0] 26)).alloc (.cells #[] 4)).alloc (.cells #[] 4)).cell? ⟨w.heap.size, 0, none⟩ = some (.slice ao f.length c0) := by go_simp
  have HR0 : Hid (RowW (w.heap.size + 1) (w.heap.size + 1) 0 0 [] (((w.alloc (.cells #[.slice ao f.length c0] 26)).alloc (.cells #[] 4)).alloc (.cells #[] 4))) := Lib.hid (by
    have h := World.ownsRow_lit (base := w.heap.size + 1) (e := 4) (size := 1) (w.alloc (.cells #[.slice ao f.length c0] 26)) #[] 0 (by simp) (by unfold maxLen; omega) rfl
    rw [show (w.alloc (.cells #[.slice ao f.length c0] 26)).heap.size = w.heap.size + 1 from by simp] at h
    exact World.ownsRow.alloc h _)
  have HR1 : Hid (RowW (w.heap.size + 1) (w.heap.size + 1 + 1) 0 0 [] (((w.alloc (.cells #[.slice ao f.length c0] 26)).alloc (.cells #[] 4)).alloc (.cells #[] 4))) := Lib.hid (by
    have h := World.ownsRow_lit (base := w.heap.size + 1) (e := 4) (size := 1) ((w.alloc (.cells #[.slice ao f.length c0] 26)).alloc (.cells #[] 4)) #[] 0 (by simp) (by unfold maxLen; omega) rfl
    rw [show ((w.alloc (.cells #[.slice ao f.length c0] 26)).alloc (.cells #[] 4)).heap.size = w.heap.size + 1 + 1 from by simp] at h
    exact h)
  go_enter Try.func94, Try.ntmps94
  go_wp2
  go_loopw [4, 5, 6] (fun q1 q2 i wr => ∃ (k g1 c1 g2 c2 : Nat) (T1 T2 : List Bool), k ≤ f.length ∧ i = .int .i64 k ∧ q1 = .slice (some ⟨g1, 0, none⟩) k c1 ∧ q2 = .slice (some ⟨g2, 0, none⟩) k c2 ∧ Hid (winsF (f.take k) = (T1, T2)) ∧ g1 ≠ g2 ∧ Hid (RowW (w.heap.size + 1) g1 k c1 T1 wr) ∧ Hid (RowW (w.heap.size + 1) g2 k c2 T2 wr) ∧ Hid (Below w.heap.size w wr) ∧ wr.cell? ⟨w.heap.size, 0, none⟩ = some (.slice ao f.length c0)) (fun _ _ i _ => f.length - (intOf i).toNat)
  case atStart => exact ⟨0, w.heap.size + 1, 0, w.heap.size + 1 + 1, 0, [], [], Nat.zero_le _, rfl, rfl, rfl, Lib.hid rfl, by omega, HR0, HR1, HB0, hd0⟩
  case round =>
    obtain ⟨k, g1, c1, g2, c2, T1, T2, hk, rfl, rfl, rfl, hT, hne, hR1, hR2, hb, hd⟩ := hrel
    clear hd0 HB0 HR0 HR1
    have l1 := hR1.out.len
    have l2 := hR2.out.len
    have b1 := hR1.out.lt
    have b2 := hR2.out.lt
    have hwz := hb.out.size
    by_cases hlt : k < f.length
    · obtain ⟨nd, hx⟩ := lt_get hlt
      obtain ⟨b, off, cc, v1, v2, e1, hbh, p1, p2, i1, i2⟩ := nodes_at' (HV.out.below hb.out hh) hx
      obtain ⟨q1, _, q2⟩ := slice_inj e1
      subst q1 q2
      clear e1
      have hun := HU.out k nd hx
      have HN := Lib.hid (winsF_take f k nd hx)
      rw [hT.out] at HN
      obtain ⟨a1, d1, rfl, hd1⟩ := ints_len' i1
      obtain ⟨a2, d2, rfl, hd2⟩ := ints_len' i2
      have k0 : (0 : Int) ≤ k := by omega
      have k1 : (k : Int) < f.length := by omega
      obtain ⟨W1, hW1⟩ : ∃ W, W = wr := ⟨_, rfl⟩
      subst hW1
      have HI1 := Lib.hid i1
      have HI2 := Lib.hid i2
      have HL1 := Lib.hid l1
      have HL2 := Lib.hid l2
      clear i1 i2 hx hT l1 l2
      go_wp2
      go_loop [7, 9] (fun q i => ∃ j : Nat, j ≤ nd.1.length ∧ i = .int .i64 j ∧ q = .bool ((nd.1.take j).any (fun x => !T2.getD x false))) (fun _ i => nd.1.length - (intOf i).toNat)
      case atStart => exact ⟨0, Nat.zero_le _, rfl, rfl⟩
      case round =>
        obtain ⟨j, hj, rfl, rfl⟩ := hrel
        by_cases hjl : j < nd.1.length
        · obtain ⟨x, hxx⟩ := lt_get hjl
          have hxk : x < k := hun x (Or.inl (List.mem_of_getElem? hxx))
          obtain ⟨rv, hrv⟩ := lt_get (l := T2) (i := x) (by rw [HL2.out]; exact hxk)
          have cr := hR2.out.at_ hrv
          have HS := Lib.hid (any_take_snoc nd.1 (fun x => !T2.getD x false) j x hxx)
          have hgd : T2.getD x false = rv := by rw [List.getD_eq_getElem?_getD, hrv]; rfl
          rw [hgd] at HS
          obtain ⟨b', off', rfl, hbb, hcell⟩ := ints_at' HI1.out hxx
          have x0 : (0 : Int) ≤ x := by omega
          have x1 : (x : Int) < k := by omega
          have j0 : (0 : Int) ≤ j := by omega
          have j1 : (j : Int) < nd.1.length := by omega
          clear hgd hrv hxx
          generalize (nd.1.take j).any (fun x => !T2.getD x false) = B0 at HS ⊢
          cases B0 <;>
          · go_wp2
            go_round
            case rel => exact ⟨j + 1, by omega, by go_num, by rw [HS.out]; first | rfl | simp⟩
            case measure => simp [intOf]; omega
        · have hje : nd.1.take j = nd.1 := List.take_of_length_le (by omega)
          rw [hje]
          clear hje
          obtain ⟨BL, hBL⟩ : ∃ b, nd.1.any (fun x => !T2.getD x false) = b := ⟨_, rfl⟩
          rw [hBL] at HN ⊢
          clear hBL
          go_wp2
          go_loop [8, 10] (fun q i => ∃ j : Nat, j ≤ nd.2.length ∧ i = .int .i64 j ∧ q = .bool ((nd.2.take j).any (fun x => !T1.getD x false))) (fun _ i => nd.2.length - (intOf i).toNat)
          case atStart => exact ⟨0, Nat.zero_le _, rfl, rfl⟩
          case round =>
            obtain ⟨j, hj, rfl, rfl⟩ := hrel
            by_cases hjl : j < nd.2.length
            · obtain ⟨x, hxx⟩ := lt_get hjl
              have hxk : x < k := hun x (Or.inr (List.mem_of_getElem? hxx))
              obtain ⟨rv, hrv⟩ := lt_get (l := T1) (i := x) (by rw [HL1.out]; exact hxk)
              have cr := hR1.out.at_ hrv
              have HS := Lib.hid (any_take_snoc nd.2 (fun x => !T1.getD x false) j x hxx)
              have hgd : T1.getD x false = rv := by rw [List.getD_eq_getElem?_getD, hrv]; rfl
              rw [hgd] at HS
              obtain ⟨b', off', rfl, hbb, hcell⟩ := ints_at' HI2.out hxx
              have x0 : (0 : Int) ≤ x := by omega
              have x1 : (x : Int) < k := by omega
              have j0 : (0 : Int) ≤ j := by omega
              have j1 : (j : Int) < nd.2.length := by omega
              clear hgd hrv hxx
              generalize (nd.2.take j).any (fun x => !T1.getD x false) = B0 at HS ⊢
              cases B0 <;>
              · go_wp2
                go_round
                case rel => exact ⟨j + 1, by omega, by go_num, by rw [HS.out]; first | rfl | simp⟩
                case measure => simp [intOf]; omega
            · have hje : nd.2.take j = nd.2 := List.take_of_length_le (by omega)
              rw [hje]
              clear hje
              obtain ⟨BR, hBR⟩ : ∃ b, nd.2.any (fun x => !T1.getD x false) = b := ⟨_, rfl⟩
              rw [hBR] at HN ⊢
              clear hBR HI1 HI2 hun
              go_wp2_with (at_builtin; refine wpList_append_own_at _ rfl _ _ 117 rfl (w.heap.size + 1) 4 i0 (.bool false) 1 1 Try.underlying117 hi0 hz0 hz1 hz2 rfl (by decide) _ _ _ rfl (World.ownsRow.alloc hR1.out _) ⟨W1.heap.size, 0, none⟩ 1 1 [.bool BL] rfl rfl ?c1 ?c2 ?c3 ?c4 ?c5 ?_)
              case c2 => first | rfl | (intro u hu; simp at hu; subst hu; rfl)
              case c3 => unfold maxLen; omega
              case c4 => omega
              intro v6 w6 hown6 hgrow6 hnil6 hat6
              obtain ⟨g6, c6, rfl, _, _⟩ := hown6.form (by omega)
              have hzA : (W1.alloc (.cells #[.bool BL] 4)).heap.size = W1.heap.size + 1 := by simp
              have hne6 : g6 ≠ g2 := by
                rcases hat6 with e | e
                · have e2 : g6 = g1 := own_eq e
                  omega
                · skip
                  have e2 : g6 = W1.heap.size + 1 := own_eq e
                  omega
              have R1 : Hid (RowW (w.heap.size + 1) g6 (k + 1) c6 (T1 ++ [BL]) w6) := Lib.hid (by unfold RowW; rw [List.map_append]; exact hown6)
              have R2 : Hid (RowW (w.heap.size + 1) g2 k c2 T2 w6) := Lib.hid (own_only (World.ownsRow.alloc hR2.out _) (Only.of_grown (F := fun g => g = g1) hgrow6 (fun g e => (own_eq e).symm)) (fun g e e3 => by have e2 := own_eq e; omega))
              have HB6 : Hid (Below w.heap.size w w6) := Lib.hid ((hb.out.alloc hb.out.size _).grown hgrow6 (by rw [hzA]; omega) (fun q hq => by have e2 := own_eq hq; omega))
              have hd6 : w6.cell? ⟨w.heap.size, 0, none⟩ = some (.slice (some ⟨b, off, none⟩) f.length c0) := (hgrow6.cell_far ⟨w.heap.size, 0, none⟩ (by rw [hzA]; show w.heap.size < _; omega) (fun e => absurd (far_eq e) (by omega))).trans ((bcell ((Below.refl _ _).alloc (Nat.le_refl _) _) _ _ (block_of_cell hd)).trans hd)
              have hs6 : W1.heap.size + 1 ≤ w6.heap.size := by have := hgrow6.size; rw [hzA] at this; exact this
              have l6 := R1.out.lt
              have l62 := R2.out.lt
              clear hown6 hgrow6 hnil6 hat6 hR1 hR2 hb hd hzA p1 p2
              go_wp2_with (at_builtin; refine wpList_append_own_at _ rfl _ _ 117 rfl (w.heap.size + 1) 4 i0 (.bool false) 1 1 Try.underlying117 hi0 hz0 hz1 hz2 rfl (by decide) _ _ _ rfl (World.ownsRow.alloc R2.out _) ⟨w6.heap.size, 0, none⟩ 1 1 [.bool BR] rfl rfl ?e1 ?e2 ?e3 ?e4 ?e5 ?_)
              case e1 => exact World.news_of_block (heap_alloc_new _ _)
              case e2 => first | rfl | (intro u hu; simp at hu; subst hu; rfl)
              case e3 => unfold maxLen; omega
              case e4 => omega
              case e5 => simp; omega
              intro v7 w7 hown7 hgrow7 hnil7 hat7
              obtain ⟨g7, c7, rfl, _, _⟩ := hown7.form (by omega)
              have hzA : (w6.alloc (.cells #[.bool BR] 4)).heap.size = w6.heap.size + 1 := by simp
              have hne7 : g6 ≠ g7 := by
                rcases hat7 with e | e
                · have e2 : g7 = g2 := own_eq e
                  omega
                · skip
                  have e2 : g7 = w6.heap.size + 1 := own_eq e
                  omega
              have Q2 : Hid (RowW (w.heap.size + 1) g7 (k + 1) c7 (T2 ++ [BR]) w7) := Lib.hid (by unfold RowW; rw [List.map_append]; exact hown7)
              have Q1 : Hid (RowW (w.heap.size + 1) g6 (k + 1) c6 (T1 ++ [BL]) w7) := Lib.hid (own_only (World.ownsRow.alloc R1.out _) (Only.of_grown (F := fun g => g = g2) hgrow7 (fun g e => (own_eq e).symm)) (fun g e e3 => by have e2 := own_eq e; omega))
              have HB7 : Hid (Below w.heap.size w w7) := Lib.hid ((HB6.out.alloc HB6.out.size _).grown hgrow7 (by rw [hzA]; omega) (fun q hq => by have e2 := own_eq hq; omega))
              have hd7 : w7.cell? ⟨w.heap.size, 0, none⟩ = some (.slice (some ⟨b, off, none⟩) f.length c0) := (hgrow7.cell_far ⟨w.heap.size, 0, none⟩ (by rw [hzA]; show w.heap.size < _; omega) (fun e => absurd (far_eq e) (by omega))).trans ((bcell ((Below.refl _ _).alloc (Nat.le_refl _) _) _ _ (block_of_cell hd6)).trans hd6)
              clear hown7 hgrow7 hnil7 hat7 R1 R2 HB6 hd6 hzA
              go_wp2
              go_roundw
              case rel => exact ⟨k + 1, g6, c6, g7, c7, _, _, by omega, by go_num, rfl, rfl, HN, hne7, Q1, Q2, HB7, hd7⟩
              case measure => simp [intOf]; omega
    · have hke : k = f.length := by omega
      subst hke
      rw [List.take_length] at hT
      have bn : ¬ (f.length : Int) < f.length := by omega
      have Q1 : Hid (RowW w.heap.size g1 f.length c1 (winsF f).1 wr) := Lib.hid (by rw [hT.out]; exact World.ownsRow.mono hR1.out (by omega))
      have Q2 : Hid (RowW w.heap.size g2 f.length c2 (winsF f).2 wr) := Lib.hid (by rw [hT.out]; exact World.ownsRow.mono hR2.out (by omega))
      clear hR1 hR2 hT
      go_wp2
      exact bodyPost_ret (v := .tuple #[.slice (some ⟨g1, 0, none⟩) f.length c1, .slice (some ⟨g2, 0, none⟩) f.length c2]) (by simp [results, Try.results94, go_sem]) rfl ⟨g1, c1, g2, c2, rfl, Q1.out, Q2.out, hb.out⟩
end

section
open Go.RowKit
set_option linter.unusedVariables false
set_option linter.unusedSimpArgs false

theorem goodI_res (v : Value) (f : List Nz) (r : Bool) (hr : Hid (goodB f = r)) (w : World) (lo hi : Nat) (hh : hi ≤ w.heap.size) (hv : NodesZ w lo hi v f) :
    Calls Try.prog 57 #[.agg #[v]] w fun e w' => e = .returned (.bool r) ∧ Below w.heap.size w w' := by
  rw [← hr.out]
  exact goodI_calls v f w lo hi hh hv

set_option maxRecDepth 100000 in
set_option maxHeartbeats 2000000 in
theorem contest_bad (va vb : Value) (f g : List Nz) (r1 r2 : Bool) (h1 : Hid (goodB f = r1)) (h2 : Hid (goodB g = r2)) (hb : (r1 && r2) = false) (w : World) (lo hi lo' hi' : Nat) (hh : hi ≤ w.heap.size) (hh' : hi' ≤ w.heap.size) (hva : NodesZ w lo hi va f) (hvb : NodesZ w lo' hi' vb g) :
    Calls Try.prog 33 #[.agg #[va], .agg #[vb]] w fun e w' => e = .returned (.tuple #[.pointer none, .bool false]) ∧ Below w.heap.size w w' := by
  have HB0 := Lib.hid fun o o' => show Below w.heap.size w ((w.alloc o).alloc o') from ((Below.refl _ _).alloc (Nat.le_refl _) _).alloc (by simp) _
  have CA := Lib.hid fun (W : World) (hW : Below w.heap.size w W) => goodI_res va f r1 h1 W lo hi (Nat.le_trans hh hW.size) (hva.below hW hh)
  have CB := Lib.hid fun (W : World) (hW : Below w.heap.size w W) => goodI_res vb g r2 h2 W lo' hi' (Nat.le_trans hh' hW.size) (hvb.below hW hh')
  clear h1 h2 hva hvb
  go_enter Try.func33, Try.ntmps33
  go_wp2_with fail
  refine (CA.out _ (HB0.out _ _)).mono ?_
  rintro e w4 ⟨rfl, hb4⟩
  have k2 : w4.cell? ⟨w.heap.size + 1, 0, none⟩ = some vb := (bcell hb4 _ _ (by simp)).trans (by go_simp)
  have HB4 := Lib.hid (Below.trans (HB0.out _ _) (hb4.mono (by simp; omega)))
  clear hb4 CA
  cases r1 with
  | false =>
    go_wp2_with fail
    exact bodyPost_ret (v := .tuple #[.pointer none, .bool false]) (by simp [results, Try.results33, go_sem]) rfl ⟨rfl, HB4.out⟩
  | true =>
    obtain rfl : r2 = false := by simpa using hb
    go_wp2_with fail
    refine (CB.out _ HB4.out).mono ?_
    rintro e w5 ⟨rfl, hb5⟩
    have HB5 := Lib.hid (HB4.out.trans (hb5.mono HB4.out.size))
    clear hb5
    go_wp2_with fail
    exact bodyPost_ret (v := .tuple #[.pointer none, .bool false]) (by simp [results, Try.results33, go_sem]) rfl ⟨rfl, HB5.out⟩

theorem zeros_wn (A B : List Nd) (n : Nat) (hn : n = 2 * (A.length * B.length)) : Wn A B (List.replicate n 0) := by rw [hn]; exact Wn.zero A B

/-- a contest that is there, from a world on -/
def Held (w w' : World) (P : Nat) (A B : List Nd) (va vb : Value) : Prop := ∃ g n cap cs, Ct w' w.heap.size P g n cap A B va vb ∧ Wn A B cs ∧ RowV w.heap.size g n cap cs w' ∧ Below w.heap.size w w'

set_option maxRecDepth 100000 in
set_option maxHeartbeats 2000000 in
theorem contest_good (va vb : Value) (f g : List Nz) (h1 : goodB f = true) (h2 : goodB g = true) (w : World) (lo hi lo' hi' : Nat) (hh : hi ≤ w.heap.size) (hh' : hi' ≤ w.heap.size) (hva : NodesZ w lo hi va f) (hvb : NodesZ w lo' hi' vb g) :
    Calls Try.prog 33 #[.agg #[va], .agg #[vb]] w fun e w' => ∃ P, e = .returned (.tuple #[.pointer (some ⟨P, 0, none⟩), .bool true]) ∧ Held w w' P (f.map downN) (g.map downN) va vb := by
  obtain ⟨hf1, hf2, _⟩ := (goodB_iff f).1 h1
  obtain ⟨hg1, hg2, _⟩ := (goodB_iff g).1 h2
  have HNA : Hid (NodesZ w 0 w.heap.size va ((f.map downN).map upN)) := Lib.hid (by rw [hf2.up.1]; exact hva.wide (Nat.zero_le _) hh)
  have HNB : Hid (NodesZ w 0 w.heap.size vb ((g.map downN).map upN)) := Lib.hid (by rw [hg2.up.1]; exact hvb.wide (Nat.zero_le _) hh')
  have HB0 := Lib.hid fun o o' => show Below w.heap.size w ((w.alloc o).alloc o') from ((Below.refl _ _).alloc (Nat.le_refl _) _).alloc (by simp) _
  have CA := Lib.hid fun (W : World) (hW : Below w.heap.size w W) => goodI_res va f true (Lib.hid h1) W lo hi (Nat.le_trans hh hW.size) (hva.below hW hh)
  have CB := Lib.hid fun (W : World) (hW : Below w.heap.size w W) => goodI_res vb g true (Lib.hid h2) W lo' hi' (Nat.le_trans hh' hW.size) (hvb.below hW hh')
  obtain ⟨aa, ca, rfl⟩ : ∃ ao c, va = .slice ao f.length c := by obtain ⟨ao, c, e, _⟩ := hva; exact ⟨ao, c, e⟩
  obtain ⟨ab, cb, rfl⟩ : ∃ ao c, vb = .slice ao g.length c := by obtain ⟨ao, c, e, _⟩ := hvb; exact ⟨ao, c, e⟩
  have la0 := hf1.1
  have la1 := hf1.2.1
  have lb0 := hg1.1
  have lb1 := hg1.2.1
  clear h1 h2 hva hvb hf1 hf2 hg1 hg2
  go_enter Try.func33, Try.ntmps33
  go_wp2_with fail
  refine (CA.out _ (HB0.out _ _)).mono ?_
  rintro e w4 ⟨rfl, hb4⟩
  have k1 : w4.cell? ⟨w.heap.size, 0, none⟩ = some (.slice aa f.length ca) := (bcell hb4 _ _ (by simp; omega)).trans (by go_simp)
  have k2 : w4.cell? ⟨w.heap.size + 1, 0, none⟩ = some (.slice ab g.length cb) := (bcell hb4 _ _ (by simp)).trans (by go_simp)
  have HB4 := Lib.hid (Below.trans (HB0.out _ _) (hb4.mono (by simp; omega)))
  clear hb4 CA
  have b1 := block_of_cell k1
  have b2 := block_of_cell k2
  go_wp2_with fail
  refine (CB.out _ HB4.out).mono ?_
  rintro e w5 ⟨rfl, hb5⟩
  have k1 := (bcell hb5 _ _ b1).trans k1
  have k2 := (bcell hb5 _ _ b2).trans k2
  have HB5 := Lib.hid (HB4.out.trans (hb5.mono HB4.out.size))
  clear hb5 b1 b2
  have hba : Below w5.heap.size w5 (w5.alloc (.cells #[.slice none 0 0, .slice none 0 0, .slice none 0 0] 73)) := (Below.refl _ _).alloc (Nat.le_refl _) _
  have d1 := (bcell hba _ _ (block_of_cell k1)).trans k1
  have d2 := (bcell hba _ _ (block_of_cell k2)).trans k2
  have p0 : (w5.alloc (.cells #[.slice none 0 0, .slice none 0 0, .slice none 0 0] 73)).cell? ⟨w5.heap.size, 0, none⟩ = some (.slice none 0 0) := by go_simp
  have p1 : (w5.alloc (.cells #[.slice none 0 0, .slice none 0 0, .slice none 0 0] 73)).cell? ⟨w5.heap.size, 1, none⟩ = some (.slice none 0 0) := by go_simp
  have p2 : (w5.alloc (.cells #[.slice none 0 0, .slice none 0 0, .slice none 0 0] 73)).cell? ⟨w5.heap.size, 2, none⟩ = some (.slice none 0 0) := by go_simp
  have q0 : (w5.alloc (.cells #[.slice none 0 0, .slice none 0 0, .slice none 0 0] 73)).frozen? ⟨w5.heap.size, 0, none⟩ = false := by go_simp
  have q1 : (w5.alloc (.cells #[.slice none 0 0, .slice none 0 0, .slice none 0 0] 73)).frozen? ⟨w5.heap.size, 1, none⟩ = false := by go_simp
  have q2 : (w5.alloc (.cells #[.slice none 0 0, .slice none 0 0, .slice none 0 0] 73)).frozen? ⟨w5.heap.size, 2, none⟩ = false := by go_simp
  have HB6 : Hid (Below w.heap.size w (w5.alloc (.cells #[.slice none 0 0, .slice none 0 0, .slice none 0 0] 73))) := Lib.hid (HB5.out.trans (hba.mono HB5.out.size))
  have hs6 : (w5.alloc (.cells #[.slice none 0 0, .slice none 0 0, .slice none 0 0] 73)).heap.size = w5.heap.size + 1 := by simp
  have hs5 := HB5.out.size
  have CS := Lib.hid (start_calls w5.heap.size (.bool true) (.bool true) _ _ aa ab f.length g.length ca cb _ p0 p1 p2 q0 q1 q2 la0 lb0 (by omega) (by omega))
  clear hba p0 p1 p2 q0 q1 q2 CB
  go_wp2_with fail
  refine CS.out.mono ?_
  rintro e w7 ⟨G, rfl, c0, c1, c2, hr, ho⟩
  have HH : Hid (Held w w7 w5.heap.size (f.map downN) (g.map downN) (.slice aa f.length ca) (.slice ab g.length cb)) := Lib.hid (by
    have hs7 := ho.size
    rw [hs6] at c2 hr hs7
    have hbx : Below w.heap.size w w7 := HB6.out.trans (ho.below (by rw [hs6]; omega) (fun b e => by omega))
    have el : 2 * (f.length * g.length) = 2 * ((f.map downN).length * (g.map downN).length) := by simp
    have hn := Below.sameIn (lo := 0) hbx (Nat.le_refl _)
    refine ⟨w5.heap.size + 1, _, G, _, ⟨c0, c1, c2, HNA.out.keep hn, HNB.out.keep hn, by omega, hr.lt.2, by omega⟩, zeros_wn _ _ _ el, World.ownsRow.mono hr (by omega), hbx⟩)
  clear c0 c1 c2 hr ho
  go_wp2_with fail
  exact bodyPost_ret (v := .tuple #[.pointer (some ⟨w5.heap.size, 0, none⟩), .bool true]) (by simp [results, Try.results33, go_sem]) rfl ⟨_, rfl, HH.out⟩

theorem held_outcome {w w1 : World} {P : Nat} {f g : List Nz} {va vb : Value} (h : Held w w1 P (f.map downN) (g.map downN) va vb) (h1 : goodB f = true) (h2 : goodB g = true) (r l : Bool) (hl : Hid (winF (f.map downN) (g.map downN) (f.length - 1) (g.length - 1) true = l)) (hr : Hid (winF (f.map downN) (g.map downN) (f.length - 1) (g.length - 1) false = r)) :
    Calls Try.prog 40 #[.pointer (some ⟨P, 0, none⟩)] w1 fun e w' => e = .returned (.int .i64 (codeOf (!r) (!l))) ∧ Below w.heap.size w w' := by
  obtain ⟨gg, n, cap, cs, hc, hw, hrow, hb⟩ := h
  obtain ⟨hf1, hf2, _⟩ := (goodB_iff f).1 h1
  obtain ⟨hg1, hg2, _⟩ := (goodB_iff g).1 h2
  have e1 : (f.map downN).length = f.length := by simp
  have e2 : (g.map downN).length = g.length := by simp
  refine (outcome_calls w.heap.size P gg n cap (f.map downN) (g.map downN) va vb hf2.up.2.under hg2.up.2.under (by rw [e1]; have := hf1.2.1; omega) (by rw [e2]; have := hg1.2.1; omega) w1 (by rw [e1]; exact hf1.1) (by rw [e2]; exact hg1.1) hc cs hw hrow r l (by rw [e1, e2]; exact hl) (by rw [e1, e2]; exact hr)).mono ?_
  rintro e w' ⟨he, ha⟩
  exact ⟨he, hb.trans (ha.only.below hb.size (fun b e => by have := hc.hg; omega))⟩
end

section
open Go.RowKit
set_option linter.unusedVariables false
set_option linter.unusedSimpArgs false

/-- who wins the difference of two games -/
def diffF (f g : List Nz) (l : Bool) : Bool := winF (f.map downN) (g.map downN) (f.length - 1) (g.length - 1) l

theorem held1 {w w' : World} {b : Nat} {v : Value} (h : w.cell? ⟨b, 0, none⟩ = some v) (hb : b < w.heap.size) (hB : Below w.heap.size w w') : w'.cell? ⟨b, 0, none⟩ = some v ∧ Below w.heap.size w w' := ⟨(bcell hB b 0 hb).trans h, hB⟩
end

section
open Go.RowKit
set_option linter.unusedVariables false
set_option linter.unusedSimpArgs false

theorem infoNodeI : (Try.prog.info? 65).map (fun i => (i.zero, i.size, i.bytes)) = some (some (.agg #[.slice none 0 0, .slice none 0 0]), 2, 48) := by kernel_rfl

theorem nothing_made (w w1 : World) (hown : w1.ownsRow w.heap.size 65 2 (.slice (some ⟨(w.alloc (.cells #[.slice none 0 0] 26)).heap.size, 0, none⟩) 1 1) 1 (madeCells (Value.agg #[.slice none 0 0, .slice none 0 0]).cells (1 * 2)).toList)
    (hg : (w.alloc (.cells #[.slice none 0 0] 26)).grownBy w1 none) :
    w1.cell? ⟨w.heap.size, 0, none⟩ = some (.slice none 0 0) ∧ w1.frozen? ⟨w.heap.size, 0, none⟩ = false ∧
    Hid ((w1.setCell ⟨w.heap.size, 0, none⟩ (.slice (some ⟨w.heap.size + 1, 0, none⟩) 1 1)).cell? ⟨w.heap.size, 0, none⟩ = some (.slice (some ⟨w.heap.size + 1, 0, none⟩) 1 1) ∧ CopyOf (w1.setCell ⟨w.heap.size, 0, none⟩ (.slice (some ⟨w.heap.size + 1, 0, none⟩) 1 1)) (.slice (some ⟨w.heap.size + 1, 0, none⟩) 1 1) [([], [])]) ∧
    Hid (Below w.heap.size w (w1.setCell ⟨w.heap.size, 0, none⟩ (.slice (some ⟨w.heap.size + 1, 0, none⟩) 1 1))) := by
  have hs : (w.alloc (.cells #[.slice none 0 0] 26)).heap.size = w.heap.size + 1 := by simp
  rw [hs] at hown
  have hblk := hg.block w.heap.size (by rw [hs]; omega) (by simp)
  have h0 : w1.cell? ⟨w.heap.size, 0, none⟩ = some (.slice none 0 0) := (World.cell?_of_block (a := ⟨w.heap.size, 0, none⟩) hblk).trans (by go_simp)
  have hf : w1.frozen? ⟨w.heap.size, 0, none⟩ = false := (World.frozen?_of_block (a := ⟨w.heap.size, 0, none⟩) hblk).trans (by go_simp)
  have c0 : w1.cell? ⟨w.heap.size + 1, 0, none⟩ = some (.slice none 0 0) := (World.ownsRow.cellAt hown 0 (by omega)).trans (by simp [madeCells, Value.cells])
  have c1 : w1.cell? ⟨w.heap.size + 1, 1, none⟩ = some (.slice none 0 0) := (World.ownsRow.cellAt hown 1 (by omega)).trans (by simp [madeCells, Value.cells])
  have hb : Below w.heap.size w w1 := ((Below.refl _ _).alloc (Nat.le_refl _) _).grown hg (by simp) (fun k hk => by cases hk)
  have ho : ∀ o, (w1.setCell ⟨w.heap.size, 0, none⟩ (.slice (some ⟨w.heap.size + 1, 0, none⟩) 1 1)).cell? ⟨w.heap.size + 1, o, none⟩ = w1.cell? ⟨w.heap.size + 1, o, none⟩ := fun o => World.cell?_setCell_other _ _ _ _ (fun e => by injection e with e _ _; omega)
  have hlt := block_of_cell c0
  refine ⟨h0, hf, Lib.hid ⟨World.cell?_setCell_same _ _ _ h0, 0, _, Nat.le_refl _, some ⟨w.heap.size + 1, 0, none⟩, 1, rfl, ⟨by simp, by omega⟩, fun j nd hnd => ?_⟩, Lib.hid ⟨hb.os, hb.tape, hb.output, by simpa using hb.size, fun k hk => ?_⟩⟩
  · have hj : j = 0 := by have := get_lt hnd; simp at this; omega
    subst hj
    simp at hnd
    subst hnd
    have hnil : ∀ W lo hi, IntsZ W lo hi (.slice none 0 0) [] := fun W lo hi => ⟨none, 0, rfl, ⟨by simp, by omega⟩, fun j x hx => by simp at hx⟩
    exact ⟨w.heap.size + 1, 0, _, _, rfl, Nat.zero_le _, by simpa using hlt, (ho _).trans c0, (ho _).trans c1, hnil _ _ _, hnil _ _ _⟩
  · exact (Below.heap_setCell w1 ⟨w.heap.size, 0, none⟩ _ k (by simp; omega)).trans (hb.block k hk)

set_option maxRecDepth 100000 in
theorem nothing_calls (w : World) : Calls Try.prog 38 #[] w fun e w' => ∃ v, e = .returned (.agg #[v]) ∧ CopyOf w' v [([], [])] ∧ Below w.heap.size w w' := by
  obtain ⟨i0, hi0, hz0, hz1, hz2⟩ := info_parts infoNodeI
  go_enter Try.func38, Try.ntmps38
  go_wp2_with (at_make; refine wpList_make_full _ rfl _ _ 24 rfl w.heap.size 65 i0 (.agg #[.slice none 0 0, .slice none 0 0]) 2 Try.underlying24 hi0 hz0 hz1 _ _ _ _ 1 rfl rfl (by first | rfl | (simp; done)) (by first | rfl | (simp; done)) (by rw [hz2]; omega) (by unfold maxLen; omega) (by simp) ?_; intro w1 hown hg; obtain ⟨h0, hf, HN, HB⟩ := nothing_made w w1 hown hg; clear hown hg)
  exact bodyPost_ret (v := .agg #[.slice (some ⟨w.heap.size + 1, 0, none⟩) 1 1]) (by simp [results, Try.results38, go_sem, HN.out.1]) rfl ⟨_, rfl, HN.out.2, HB.out⟩

theorem good_zero : goodB [([], [])] = true := by decide

theorem diff_zero (f : List Nz) (l : Bool) : diffF f [([], [])] l = soloF (f.map downN) (f.length - 1) l := rfl

theorem held_below {w w1 : World} {P : Nat} {A B : List Nd} {va vb : Value} (h : Held w w1 P A B va vb) : Below w.heap.size w w1 := by obtain ⟨_, _, _, _, _, _, _, hb⟩ := h; exact hb
end

section
open Go.RowKit
set_option linter.unusedVariables false
set_option linter.unusedSimpArgs false

theorem compareI_calls (va vb : Value) (f g : List Nz) (x : Int) (ok : Bool) (hok : Hid ((goodB f && goodB g) = ok)) (hx : Hid ((if goodB f && goodB g then codeOf (!diffF f g false) (!diffF f g true) else 0) = x)) (w : World) (lo hi lo' hi' : Nat) (hh : hi ≤ w.heap.size) (hh' : hi' ≤ w.heap.size) (hva : NodesZ w lo hi va f) (hvb : NodesZ w lo' hi' vb g) :
    Calls Try.prog 17 #[.agg #[va], .agg #[vb]] w fun e w' => e = .returned (.tuple #[.int .i64 x, .bool ok]) ∧ Below w.heap.size w w' := by
  have HB0 := Lib.hid fun o o' => show Below w.heap.size w ((w.alloc o).alloc o') from ((Below.refl _ _).alloc (Nat.le_refl _) _).alloc (by simp) _
  have HVA := Lib.hid fun (W : World) (hW : Below w.heap.size w W) => hva.below hW hh
  have HVB := Lib.hid fun (W : World) (hW : Below w.heap.size w W) => hvb.below hW hh'
  clear hva hvb
  cases ok with
  | false =>
    obtain rfl : x = 0 := by rw [← hx.out, hok.out]; rfl
    obtain ⟨r1, h1⟩ : ∃ r, goodB f = r := ⟨_, rfl⟩
    obtain ⟨r2, h2⟩ : ∃ r, goodB g = r := ⟨_, rfl⟩
    have hb : (r1 && r2) = false := by rw [← h1, ← h2]; exact hok.out
    have C := Lib.hid fun (W : World) (hW : Below w.heap.size w W) => contest_bad va vb f g r1 r2 (Lib.hid h1) (Lib.hid h2) hb W lo hi lo' hi' (Nat.le_trans hh hW.size) (Nat.le_trans hh' hW.size) (HVA.out W hW) (HVB.out W hW)
    clear h1 h2 hb
    go_enter Try.func17, Try.ntmps17
    go_wp2_with fail
    refine (C.out _ (HB0.out _ _)).mono ?_
    rintro e w4 ⟨rfl, hb4⟩
    have HB4 := Lib.hid (Below.trans (HB0.out _ _) (hb4.mono (by simp; omega)))
    clear hb4
    go_wp2_with fail
    exact bodyPost_ret (v := .tuple #[.int .i64 0, .bool false]) (by simp [results, Try.results17, go_sem]) rfl ⟨rfl, HB4.out⟩
  | true =>
    have hg := hok.out
    obtain ⟨l, hl⟩ : ∃ l, diffF f g true = l := ⟨_, rfl⟩
    obtain ⟨r, hr⟩ : ∃ r, diffF f g false = r := ⟨_, rfl⟩
    have HX : Hid (codeOf (!r) (!l) = x) := Lib.hid (by rw [← hx.out, hg, hl, hr]; rfl)
    rw [Bool.and_eq_true] at hg
    have C := Lib.hid fun (W : World) (hW : Below w.heap.size w W) => contest_good va vb f g hg.1 hg.2 W lo hi lo' hi' (Nat.le_trans hh hW.size) (Nat.le_trans hh' hW.size) (HVA.out W hW) (HVB.out W hW)
    have CF := Lib.hid fun (W w1 : World) (P : Nat) (h : Held W w1 P (f.map downN) (g.map downN) va vb) => held_outcome h hg.1 hg.2 r l (Lib.hid hl) (Lib.hid hr)
    rw [HX.out] at CF
    clear hg hl hr
    go_enter Try.func17, Try.ntmps17
    go_wp2_with fail
    refine (C.out _ (HB0.out _ _)).mono ?_
    rintro e w4 ⟨P, rfl, hH⟩
    have C2 := Lib.hid (CF.out _ w4 P hH)
    clear hH CF
    go_wp2_with fail
    refine C2.out.mono ?_
    rintro e w5 ⟨rfl, hb5⟩
    have HB5 := Lib.hid (Below.trans (HB0.out _ _) (hb5.mono (by simp; omega)))
    clear hb5 C2
    go_wp2_with fail
    exact bodyPost_ret (v := .tuple #[.int .i64 x, .bool true]) (by simp [results, Try.results17, go_sem]) rfl ⟨rfl, HB5.out⟩
end

section
open Go.RowKit
set_option linter.unusedVariables false
set_option linter.unusedSimpArgs false

theorem outcomeI_calls (va : Value) (f : List Nz) (x : Int) (ok : Bool) (hok : Hid (goodB f = ok)) (hx : Hid ((if goodB f then codeOf (!soloF (f.map downN) (f.length - 1) false) (!soloF (f.map downN) (f.length - 1) true) else 0) = x)) (w : World) (lo hi : Nat) (hh : hi ≤ w.heap.size) (hva : NodesZ w lo hi va f) :
    Calls Try.prog 15 #[.agg #[va]] w fun e w' => e = .returned (.tuple #[.int .i64 x, .bool ok]) ∧ Below w.heap.size w w' := by
  have HB0 := Lib.hid fun o => show Below w.heap.size w (w.alloc o) from ((Below.refl _ _).alloc (Nat.le_refl _) _)
  have C := Lib.hid fun (W : World) (vb : Value) (hW : Below w.heap.size w W) (hb : CopyOf W vb [([], [])]) => show Calls Try.prog 17 #[.agg #[va], .agg #[vb]] W fun e w' => e = .returned (.tuple #[.int .i64 x, .bool ok]) ∧ Below W.heap.size W w' from by
    obtain ⟨lo', hi', hh', hvb⟩ := hb
    exact compareI_calls va vb f [([], [])] x ok (Lib.hid (by rw [good_zero, Bool.and_true]; exact hok.out)) (Lib.hid (by rw [good_zero, Bool.and_true]; exact hx.out)) W lo hi lo' hi' (Nat.le_trans hh hW.size) hh' (hva.below hW hh) hvb
  clear hva hok hx
  go_enter Try.func15, Try.ntmps15
  have k0 : (w.alloc (.cells #[va] 26)).cell? ⟨w.heap.size, 0, none⟩ = some va := by go_simp
  have hS := HB0.out (.cells #[va] 26)
  have hlt0 := block_of_cell k0
  go_upto_region 1 with fail
  generalize (w.alloc (.cells #[va] 26)) = W1 at k0 hS hlt0
  have HS := Lib.hid hS
  have hbd : Below W1.heap.size W1 W1.drew := below_drewN (Below.refl _ _) 1
  have hS0 := held1 k0 hlt0 hbd
  clear hS HB0
  go_region_held3 (fun w' : World => w'.cell? ⟨w.heap.size, 0, none⟩ = some va ∧ Below W1.heap.size W1 w') (first | exact hS0 | (go_split_ands; exact ⟨‹_›, ‹_›⟩) | exact held1 k0 hlt0 hbB | exact held1 k0 hlt0 hbA) (first
    | (go_at_call 17; (with_reducible refine (C.out wa _ (HS.out.trans (hbA.mono HS.out.size)) hca).mono ?_); rintro e wb ⟨rfl, hbb⟩; have hbB := hbA.trans (hbb.mono hbA.size))
    | (go_at_call 38; (with_reducible refine (nothing_calls _).mono ?_); rintro e wa ⟨vz, rfl, hca, hba⟩; have hbA := hbd.trans (hba.mono hbd.size)))
  all_goals
    rename_i hH
    go_wp2_with fail
    exact bodyPost_ret (v := .tuple #[.int .i64 x, .bool ok]) (by simp [results, Try.results15, go_sem]) rfl ⟨rfl, HS.out.trans (hbB.mono HS.out.size)⟩
end

section
open Go.RowKit
set_option linter.unusedVariables false
set_option linter.unusedSimpArgs false

theorem l4Code_calls (m l : Bool) (w : World) : Calls Try.prog 68 #[.bool m, .bool l] w fun e w' => e = .returned (.int .i64 (codeOf m l)) ∧ w' = w := by
  cases m <;> cases l <;>
  · go_enter Try.func68, Try.ntmps68
    go_wp2
    go_ret
    exact ⟨rfl, rfl⟩
end

section
open Go.RowKit
set_option linter.unusedVariables false
set_option linter.unusedSimpArgs false

theorem winsF_last (f : List Nd) (hu : Under f) (h0 : 0 < f.length) : (winsF f).1[f.length - 1]? = some (soloF f (f.length - 1) true) ∧ (winsF f).2[f.length - 1]? = some (soloF f (f.length - 1) false) := by
  have h := winsF_is f hu f.length (Nat.le_refl _)
  rw [List.take_length] at h
  obtain ⟨h1, h2, h3⟩ := h
  obtain ⟨e1, e2⟩ := h3 (f.length - 1) (by omega)
  rw [List.getD_eq_getElem?_getD] at e1 e2
  obtain ⟨x, hx⟩ := lt_get (l := (winsF f).1) (i := f.length - 1) (by omega)
  obtain ⟨y, hy⟩ := lt_get (l := (winsF f).2) (i := f.length - 1) (by omega)
  rw [hx] at e1
  rw [hy] at e2
  exact ⟨by rw [hx, ← e1]; rfl, by rw [hy, ← e2]; rfl⟩

set_option maxHeartbeats 1000000 in
theorem l4First_calls (v : Value) (f : List Nd) (l r : Bool) (hr : Hid (soloF f (f.length - 1) l = r)) (w : World) (lo hi : Nat) (hh : hi ≤ w.heap.size) (hv : NodesZ w lo hi v (f.map upN)) (hu : Under f) (h0 : 0 < f.length) (hl : f.length ≤ 1000) :
    Calls Try.prog 69 #[.agg #[v], .bool l] w fun e w' => e = .returned (.bool r) ∧ Below w.heap.size w w' := by
  have HB0 := Lib.hid fun o => show Below w.heap.size w (w.alloc o) from ((Below.refl _ _).alloc (Nat.le_refl _) _)
  have C := Lib.hid fun (W : World) (hW : Below w.heap.size w W) => l4Wins_calls v f W lo hi (Nat.le_trans hh hW.size) (hv.below hW hh) hu hl
  obtain ⟨hl1, hl2⟩ := winsF_last f hu h0
  clear hv hu
  have n1 : IntKind.i64.wrap ((f.length : Int) - 1) = ((f.length - 1 : Nat) : Int) := by rw [IntWalk.i64_in _ (by omega)]; omega
  have n2 : ((f.length - 1 : Nat) : Int) < f.length := by omega
  go_enter Try.func69, Try.ntmps69
  go_wp2_with fail
  refine (C.out _ (HB0.out _)).mono ?_
  rintro e w4 ⟨g1, c1, g2, c2, rfl, hr1, hr2, hb4⟩
  have HB4 := Lib.hid (Below.trans (HB0.out _) (hb4.mono (by simp)))
  have k1 := hr1.at_ hl1
  have k2 := hr2.at_ hl2
  clear hb4 hr1 hr2 hl1 hl2 C
  cases l with
  | true =>
    rw [hr.out] at k1
    go_wp2_with fail
    go_ret
    exact ⟨rfl, HB4.out⟩
  | false =>
    rw [hr.out] at k2
    go_wp2_with fail
    go_ret
    exact ⟨rfl, HB4.out⟩

set_option maxHeartbeats 1000000 in
theorem l4Outcome_calls (va : Value) (f : List Nd) (x : Int) (hx : Hid (codeOf (!soloF f (f.length - 1) false) (!soloF f (f.length - 1) true) = x)) (w : World) (lo hi : Nat) (hh : hi ≤ w.heap.size) (hv : NodesZ w lo hi va (f.map upN)) (hu : Under f) (h0 : 0 < f.length) (hl : f.length ≤ 1000) :
    Calls Try.prog 39 #[.agg #[va]] w fun e w' => e = .returned (.int .i64 x) ∧ Below w.heap.size w w' := by
  have HB0 := Lib.hid fun o => show Below w.heap.size w (w.alloc o) from ((Below.refl _ _).alloc (Nat.le_refl _) _)
  obtain ⟨rl, hrl⟩ : ∃ r, soloF f (f.length - 1) true = r := ⟨_, rfl⟩
  obtain ⟨rr, hrr⟩ : ∃ r, soloF f (f.length - 1) false = r := ⟨_, rfl⟩
  have CT := Lib.hid fun (W : World) (hW : Below w.heap.size w W) => l4First_calls va f true rl (Lib.hid hrl) W lo hi (Nat.le_trans hh hW.size) (hv.below hW hh) hu h0 hl
  have CF := Lib.hid fun (W : World) (hW : Below w.heap.size w W) => l4First_calls va f false rr (Lib.hid hrr) W lo hi (Nat.le_trans hh hW.size) (hv.below hW hh) hu h0 hl
  rw [hrl, hrr] at hx
  clear hv hu hrl hrr
  go_enter Try.func39, Try.ntmps39
  have k0 : (w.alloc (.cells #[va] 26)).cell? ⟨w.heap.size, 0, none⟩ = some va := by go_simp
  have hS := HB0.out (.cells #[va] 26)
  have hlt0 := block_of_cell k0
  go_upto_region 1 with fail
  generalize (w.alloc (.cells #[va] 26)) = W1 at k0 hS hlt0
  have HS := Lib.hid hS
  have hbd : Below W1.heap.size W1 W1.drew := below_drewN (Below.refl _ _) 1
  have hS0 := held1 k0 hlt0 hbd
  clear hS HB0
  go_region_held3 (fun w' : World => w'.cell? ⟨w.heap.size, 0, none⟩ = some va ∧ Below W1.heap.size W1 w') (first | exact hS0 | (go_split_ands; exact ⟨‹_›, ‹_›⟩) | exact held1 k0 hlt0 hbB | exact held1 k0 hlt0 hbA | exact held1 k0 hlt0 hbC) (first
    | (go_at_call 68; (with_reducible refine (l4Code_calls _ _ _).mono ?_); rintro e wc ⟨rfl, rfl⟩)
    | (go_at_call 69; (with_reducible refine (CF.out _ (HS.out.trans (hbd.mono HS.out.size))).mono ?_); rintro e wa ⟨rfl, hba⟩; have hbA := hbd.trans (hba.mono hbd.size))
    | (go_at_call 69; (with_reducible refine (CT.out wa (HS.out.trans (hbA.mono HS.out.size))).mono ?_); rintro e wb ⟨rfl, hbb⟩; have hbB := hbA.trans (hbb.mono hbA.size)))
  all_goals
    rename_i hH
    go_wp2_with fail
    go_ret
    exact ⟨ret_int hx.out, HS.out.trans (hH.2.mono HS.out.size)⟩
end

section
open Go.RowKit
set_option linter.unusedVariables false
set_option linter.unusedSimpArgs false

theorem outcomeS_calls (va : Value) (f : List Nz) (x : Int) (ok : Bool) (hok : Hid (goodB f = ok)) (hx : Hid ((if goodB f then codeOf (!soloF (f.map downN) (f.length - 1) false) (!soloF (f.map downN) (f.length - 1) true) else 0) = x)) (w : World) (lo hi : Nat) (hh : hi ≤ w.heap.size) (hva : NodesZ w lo hi va f) :
    Calls Try.prog 16 #[.agg #[va]] w fun e w' => e = .returned (.tuple #[.int .i64 x, .bool ok]) ∧ Below w.heap.size w w' := by
  have HB0 := Lib.hid fun o => show Below w.heap.size w (w.alloc o) from ((Below.refl _ _).alloc (Nat.le_refl _) _)
  have CG := Lib.hid fun (W : World) (hW : Below w.heap.size w W) => goodS_res va f ok hok W lo hi (Nat.le_trans hh hW.size) (hva.below hW hh)
  cases ok with
  | false =>
    obtain rfl : x = 0 := by rw [← hx.out, hok.out]; rfl
    go_enter Try.func16, Try.ntmps16
    go_wp2_with fail
    refine (CG.out _ (HB0.out _)).mono ?_
    rintro e w4 ⟨rfl, hb4⟩
    have HB4 := Lib.hid (Below.trans (HB0.out _) (hb4.mono (by simp)))
    clear hb4
    go_wp2_with fail
    exact bodyPost_ret (v := .tuple #[.int .i64 0, .bool false]) (by simp [results, Try.results16, go_sem]) rfl ⟨rfl, HB4.out⟩
  | true =>
    have hg := hok.out
    rw [hg] at hx
    obtain ⟨hf1, hf2, _⟩ := (goodB_iff f).1 hg
    have e1 : (f.map downN).length = f.length := by simp
    have C := Lib.hid fun (W : World) (hW : Below w.heap.size w W) => l4Outcome_calls va (f.map downN) x (Lib.hid (by rw [e1]; exact hx.out)) W lo hi (Nat.le_trans hh hW.size) (by rw [hf2.up.1]; exact hva.below hW hh) hf2.up.2.under (by rw [e1]; exact hf1.1) (by rw [e1]; have := hf1.2.1; omega)
    clear hva hg hf1 hf2 e1
    go_enter Try.func16, Try.ntmps16
    go_wp2_with fail
    refine (CG.out _ (HB0.out _)).mono ?_
    rintro e w4 ⟨rfl, hb4⟩
    have k0 : w4.cell? ⟨w.heap.size, 0, none⟩ = some va := (bcell hb4 _ _ (by simp)).trans (by go_simp)
    have HB4 := Lib.hid (Below.trans (HB0.out _) (hb4.mono (by simp)))
    clear hb4
    go_wp2_with fail
    refine (C.out _ HB4.out).mono ?_
    rintro e w5 ⟨rfl, hb5⟩
    have HB5 := Lib.hid (HB4.out.trans (hb5.mono HB4.out.size))
    clear hb5
    go_wp2_with fail
    exact bodyPost_ret (v := .tuple #[.int .i64 x, .bool true]) (by simp [results, Try.results16, go_sem]) rfl ⟨rfl, HB5.out⟩
end

section
open Go.RowKit Go.Lib
set_option linter.unusedVariables false
set_option linter.unusedSimpArgs false

set_option maxHeartbeats 1000000 in
theorem winsFirst_calls (base P g n cap : Nat) (A B : List Nd) (va vb : Value) (hA : Under A) (hB : Under B) (hAl : A.length ≤ 1000) (hBl : B.length ≤ 1000) (l : Bool) (w : World) (h0 : 0 < A.length) (h1 : 0 < B.length)
    (h : Ct w base P g n cap A B va vb) (cs : List Int) (hw : Wn A B cs) (hr : RowV base g n cap cs w) (r : Bool) (hres : Hid (winF A B (A.length - 1) (B.length - 1) l = r)) :
    Calls Try.prog 34 #[.pointer (some ⟨P, 0, none⟩), .bool l] w fun e w' => e = .returned (.bool r) ∧ Asked base g n cap A B w w' := by
  obtain ⟨a1, b1, rfl⟩ : ∃ ao c, va = .slice ao A.length c := by obtain ⟨ao, c, e, _⟩ := h.na; rw [List.length_map] at e; exact ⟨ao, c, e⟩
  obtain ⟨a2, b2, rfl⟩ : ∃ ao c, vb = .slice ao B.length c := by obtain ⟨ao, c, e, _⟩ := h.nb; rw [List.length_map] at e; exact ⟨ao, c, e⟩
  have k0 := h.c0
  have k1 := h.c1
  have hd : Below w.heap.size w w.drew := below_drewN (Below.refl w.heap.size w) 1
  have C := Lib.hid <| (wins_calls base P g n cap A B _ _ hA hB hAl hBl (A.length - 1 + (B.length - 1) + 1) (A.length - 1) (B.length - 1) l cs w.drew (by omega) (by omega) (by omega) (h.below hd) hw (hr.below hd)).mono fun e w' hp => (⟨by rw [← hres.out]; exact hp.1, Asked.trans ⟨cs, hw, hr.below hd, Only.of_below hd⟩ hp.2⟩ : e = .returned (.bool r) ∧ Asked base g n cap A B w w')
  have e1 : (A.length : Int) - 1 = ((A.length - 1 : Nat) : Int) := by omega
  have e2 : (B.length : Int) - 1 = ((B.length - 1 : Nat) : Int) := by omega
  have q1 : (A.length : Int) ≤ 1000 := by omega
  have q2 : (B.length : Int) ≤ 1000 := by omega
  have w1 : IntKind.i64.wrap ((A.length : Int) - 1) = ((A.length - 1 : Nat) : Int) := by rw [IntWalk.i64_in _ (by omega), e1]
  have w2 : IntKind.i64.wrap ((B.length : Int) - 1) = ((B.length - 1 : Nat) : Int) := by rw [IntWalk.i64_in _ (by omega), e2]
  clear h hw hr hres hA hB hd e1 e2
  go_enter Try.func34, Try.ntmps34
  go_wp2_with fail
  go_region_with (go_at_call 58; (with_reducible refine C.out.mono ?_); rintro e w4 ⟨rfl, ha⟩; have HA := Lib.hid ha; clear ha)
  all_goals
    go_wp2_with fail
    go_ret
    exact ⟨rfl, HA.out⟩

/-- what is asked of a contest, from a world on -/
theorem held_first {w w1 : World} {P : Nat} {f g : List Nz} {va vb : Value} (h : Held w w1 P (f.map downN) (g.map downN) va vb) (h1 : goodB f = true) (h2 : goodB g = true) (l r : Bool) (hr : Hid (winF (f.map downN) (g.map downN) (f.length - 1) (g.length - 1) l = r)) :
    Calls Try.prog 34 #[.pointer (some ⟨P, 0, none⟩), .bool l] w1 fun e w' => e = .returned (.bool r) ∧ Below w.heap.size w w' := by
  obtain ⟨gg, n, cap, cs, hc, hw, hrow, hb⟩ := h
  obtain ⟨hf1, hf2, _⟩ := (goodB_iff f).1 h1
  obtain ⟨hg1, hg2, _⟩ := (goodB_iff g).1 h2
  have e1 : (f.map downN).length = f.length := by simp
  have e2 : (g.map downN).length = g.length := by simp
  refine (winsFirst_calls w.heap.size P gg n cap (f.map downN) (g.map downN) va vb hf2.up.2.under hg2.up.2.under (by rw [e1]; have := hf1.2.1; omega) (by rw [e2]; have := hg1.2.1; omega) l w1 (by rw [e1]; exact hf1.1) (by rw [e2]; exact hg1.1) hc cs hw hrow r (by rw [e1, e2]; exact hr)).mono ?_
  rintro e w' ⟨he, ha⟩
  exact ⟨he, hb.trans (ha.only.below hb.size (fun b e => by have := hc.hg; omega))⟩
end

section
open Go.RowKit
set_option linter.unusedVariables false
set_option linter.unusedSimpArgs false

set_option maxHeartbeats 1000000 in
theorem winsMovingI_calls (va : Value) (f : List Nz) (l a ok : Bool) (hok : Hid (goodB f = ok)) (ha : Hid ((goodB f && soloF (f.map downN) (f.length - 1) l) = a)) (w : World) (lo hi : Nat) (hh : hi ≤ w.heap.size) (hva : NodesZ w lo hi va f) :
    Calls Try.prog 19 #[.agg #[va], .bool l] w fun e w' => e = .returned (.tuple #[.bool a, .bool ok]) ∧ Below w.heap.size w w' := by
  have HB0 := Lib.hid fun o => show Below w.heap.size w (w.alloc o) from ((Below.refl _ _).alloc (Nat.le_refl _) _)
  have HVA := Lib.hid fun (W : World) (hW : Below w.heap.size w W) => hva.below hW hh
  clear hva
  cases ok with
  | false =>
    obtain rfl : a = false := by rw [← ha.out, hok.out]; rfl
    have C := Lib.hid fun (W : World) (vb : Value) (hW : Below w.heap.size w W) (hb : CopyOf W vb [([], [])]) => show Calls Try.prog 33 #[.agg #[va], .agg #[vb]] W fun e w' => e = .returned (.tuple #[.pointer none, .bool false]) ∧ Below W.heap.size W w' from by
      obtain ⟨lo', hi', hh', hvb⟩ := hb
      exact contest_bad va vb f [([], [])] false true hok (Lib.hid good_zero) rfl W lo hi lo' hi' (Nat.le_trans hh hW.size) hh' (HVA.out W hW) hvb
    go_enter Try.func19, Try.ntmps19
    have k0 : (w.alloc (.cells #[va] 26)).cell? ⟨w.heap.size, 0, none⟩ = some va := by go_simp
    have hS := HB0.out (.cells #[va] 26)
    have hlt0 := block_of_cell k0
    go_upto_region 1 with fail
    generalize (w.alloc (.cells #[va] 26)) = W1 at k0 hS hlt0
    have HS := Lib.hid hS
    have hbd : Below W1.heap.size W1 W1.drew := below_drewN (Below.refl _ _) 1
    have hS0 := held1 k0 hlt0 hbd
    clear hS HB0 hok ha
    go_region_held3 (fun w' : World => w'.cell? ⟨w.heap.size, 0, none⟩ = some va ∧ Below W1.heap.size W1 w') (first | exact hS0 | (go_split_ands; exact ⟨‹_›, ‹_›⟩) | exact held1 k0 hlt0 hbB | exact held1 k0 hlt0 hbA) (first
      | (go_at_call 33; (with_reducible refine (C.out wa _ (HS.out.trans (hbA.mono HS.out.size)) hca).mono ?_); rintro e wb ⟨rfl, hbb⟩; have hbB := hbA.trans (hbb.mono hbA.size))
      | (go_at_call 38; (with_reducible refine (nothing_calls _).mono ?_); rintro e wa ⟨vz, rfl, hca, hba⟩; have hbA := hbd.trans (hba.mono hbd.size)))
    all_goals
      rename_i hH
      go_wp2_with fail
      exact bodyPost_ret (v := .tuple #[.bool false, .bool false]) (by simp [results, Try.results19, go_sem]) rfl ⟨rfl, HS.out.trans (hbB.mono HS.out.size)⟩
  | true =>
    have hg := hok.out
    have hr : soloF (f.map downN) (f.length - 1) l = a := by rw [← ha.out, hg]; rfl
    have C := Lib.hid fun (W : World) (vb : Value) (hW : Below w.heap.size w W) (hb : CopyOf W vb [([], [])]) => show Calls Try.prog 33 #[.agg #[va], .agg #[vb]] W fun e w' => ∃ P, e = .returned (.tuple #[.pointer (some ⟨P, 0, none⟩), .bool true]) ∧ Held W w' P (f.map downN) [([], [])] va vb from by
      obtain ⟨lo', hi', hh', hvb⟩ := hb
      exact contest_good va vb f [([], [])] hg good_zero W lo hi lo' hi' (Nat.le_trans hh hW.size) hh' (HVA.out W hW) hvb
    have CF := Lib.hid fun (W w1 : World) (P : Nat) (vb : Value) (h : Held W w1 P (f.map downN) [([], [])] va vb) => held_first (g := [([], [])]) h hg good_zero l a (Lib.hid hr)
    clear hg hr
    go_enter Try.func19, Try.ntmps19
    have k0 : (w.alloc (.cells #[va] 26)).cell? ⟨w.heap.size, 0, none⟩ = some va := by go_simp
    have hS := HB0.out (.cells #[va] 26)
    have hlt0 := block_of_cell k0
    go_upto_region 1 with fail
    generalize (w.alloc (.cells #[va] 26)) = W1 at k0 hS hlt0
    have HS := Lib.hid hS
    have hbd : Below W1.heap.size W1 W1.drew := below_drewN (Below.refl _ _) 1
    have hS0 := held1 k0 hlt0 hbd
    clear hS HB0 hok ha
    go_region_held3 (fun w' : World => w'.cell? ⟨w.heap.size, 0, none⟩ = some va ∧ Below W1.heap.size W1 w') (first | exact hS0 | (go_split_ands; exact ⟨‹_›, ‹_›⟩) | exact held1 k0 hlt0 hbB | exact held1 k0 hlt0 hbA) (first
      | (go_at_call 33; (with_reducible refine (C.out wa _ (HS.out.trans (hbA.mono HS.out.size)) hca).mono ?_); rintro e wb ⟨P, rfl, hH1⟩; have hbB := hbA.trans ((held_below hH1).mono hbA.size); have C2 := Lib.hid (CF.out wa wb P _ hH1))
      | (go_at_call 38; (with_reducible refine (nothing_calls _).mono ?_); rintro e wa ⟨vz, rfl, hca, hba⟩; have hbA := hbd.trans (hba.mono hbd.size)))
    all_goals
      rename_i hH
      have HBA : Hid (Below w.heap.size w wa) := Lib.hid (HS.out.trans (hbA.mono HS.out.size))
      clear hH hH1 hca CF C hbB hbA hba hbd hS0 k0
      go_wp2_with fail
      refine C2.out.mono ?_
      rintro e w5 ⟨rfl, hb5⟩
      have HB5 := Lib.hid (HBA.out.trans (hb5.mono HBA.out.size))
      clear hb5 C2
      go_wp2_with fail
      exact bodyPost_ret (v := .tuple #[.bool a, .bool true]) (by simp [results, Try.results19, go_sem]) rfl ⟨rfl, HB5.out⟩
end

end Go.Proofs.Ytiacgcpcgabdoaa
