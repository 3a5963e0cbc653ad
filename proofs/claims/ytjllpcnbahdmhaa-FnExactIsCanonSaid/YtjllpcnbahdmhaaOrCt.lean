/- The program's contest: wins and search. -/
import Derived.Test.YtjllpcnbahdmhaaOrCtB
import Derived.StillTailTactics
namespace Go.Proofs.Ytjllpcnbahdmhaa
open Go.RowKit
set_option linter.unusedVariables false
set_option linter.unusedSimpArgs false

/-- wins, for the pairs of a lesser sum -/
def WinsB (base P g n cap : Nat) (A B : List Nd) (va vb : Value) (s : Nat) : Prop := ∀ (i j : Nat) (l : Bool) (cs : List Int) (w : World), i + j < s → i < A.length → j < B.length → Ct w base P g n cap A B va vb → Wn A B cs → RowV base g n cap cs w →
  Calls Try.prog 101 #[.pointer (some ⟨P, 0, none⟩), .int .i64 i, .int .i64 j, .bool l] w fun e w' => e = .returned (.bool (winF A B i j l)) ∧ Asked base g n cap A B w w'

theorem Asked.trans {base g n cap : Nat} {A B : List Nd} {w w1 w2 : World} (h : Asked base g n cap A B w w1) (k : Asked base g n cap A B w1 w2) : Asked base g n cap A B w w2 := by
  obtain ⟨_, _, _, h3⟩ := h
  obtain ⟨cs, k1, k2, k3⟩ := k
  exact ⟨cs, k1, k2, h3.trans k3 (fun _ _ h => h)⟩

theorem Asked.only {base g n cap : Nat} {A B : List Nd} {w w1 : World} (h : Asked base g n cap A B w w1) : Only w w1 (fun b => b = g) := by obtain ⟨_, _, _, h3⟩ := h; exact h3

theorem Asked.below {base g n cap : Nat} {A B : List Nd} {w w1 w2 : World} (h : Asked base g n cap A B w w1) (hb : Below w1.heap.size w1 w2) : Asked base g n cap A B w w2 := by
  obtain ⟨cs, k1, k2, h3⟩ := h
  exact ⟨cs, k1, k2.below hb, h3.trans (Only.of_below hb) (fun _ _ h => h)⟩

theorem Asked.same {base g n cap : Nat} {A B : List Nd} {w w1 : World} (h : Asked base g n cap A B w w1) (hg : base ≤ g) (hl : g < w.heap.size) : SameIn 0 base w w1 := h.only.sameIn (by omega) (fun b hb e => by omega)

theorem ints_len {w : World} {lo hi : Nat} {v : Value} {l : List Nat} (h : IntsZ w lo hi v (upL l)) : ∃ ao c, v = .slice ao l.length c ∧ (l.length ≤ c ∧ c ≤ 9223372036854775807) := by
  obtain ⟨ao, c, rfl, h2, _⟩ := h
  have : (upL l).length = l.length := by unfold upL; simp
  rw [this] at h2 ⊢
  exact ⟨ao, c, rfl, h2⟩

theorem ints_at {w : World} {lo hi : Nat} {ao : Option Addr} {n c : Nat} {l : List Nat} (h : IntsZ w lo hi (.slice ao n c) (upL l)) {k x : Nat} (hx : l[k]? = some x) : ∃ b off, ao = some ⟨b, off, none⟩ ∧ b < hi ∧ w.cell? ⟨b, off + k, none⟩ = some (.int .i64 (x : Int)) := by
  obtain ⟨ao', c', e, _, h3⟩ := h
  injection e with e1 _ _
  subst e1
  obtain ⟨b, off, e, _, hb, hc⟩ := h3 k (x : Int) (by unfold upL; rw [List.getElem?_map, hx]; rfl)
  exact ⟨b, off, e, hb, hc⟩

set_option maxRecDepth 100000 in
set_option maxHeartbeats 4000000 in
theorem search_calls (base P g n cap : Nat) (A B : List Nd) (va vb : Value) (hA : Under A) (hB : Under B) (i j : Nat) (l : Bool) (IH : WinsB base P g n cap A B va vb (i + j)) (cs : List Int) (w : World) (hi : i < A.length) (hj : j < B.length)
    (h : Ct w base P g n cap A B va vb) (hw : Wn A B cs) (hr : RowV base g n cap cs w) :
    Calls Try.prog 129 #[.pointer (some ⟨P, 0, none⟩), .int .i64 i, .int .i64 j, .bool l] w fun e w' => e = .returned (.int .i8 (wiC A B i j l)) ∧ Asked base g n cap A B w w' := by
  obtain ⟨x, hx⟩ := lt_get hi
  obtain ⟨y, hy⟩ := lt_get hj
  obtain ⟨b1, o1, c1, v1, v2, rfl, hb1, p1, p2, i1, i2⟩ := nodes_at h.na hx
  obtain ⟨b2, o2, c2, u1, u2, rfl, hb2, q1, q2, j1, j2⟩ := nodes_at h.nb hy
  have hbz := h.hg
  have hbz2 := h.hgl
  have k0 := h.c0
  have HC0 := Lib.hid h
  have L1 : Hid (optsD A i l = if l then x.1 else x.2) := Lib.hid (by unfold optsD; rw [nodeD_at hx])
  have L2 : Hid (optsD B j (!l) = if !l then y.1 else y.2) := Lib.hid (by unfold optsD; rw [nodeD_at hy])
  have HW : Hid (winF A B i j l = ((optsD A i l).any (fun o => !winF A B o j (!l)) || (optsD B j (!l)).any (fun o => !winF A B i o (!l)))) := Lib.hid (winF_eq A B hA hB i j l)
  have HL1 : Hid (∀ o, o ∈ optsD A i l → o < i) := Lib.hid (fun o ho => optsD_lt hA ho)
  have HL2 : Hid (∀ o, o ∈ optsD B j (!l) → o < j) := Lib.hid (fun o ho => optsD_lt hB ho)
  have HIH := Lib.hid IH
  have HQ1 := Lib.hid q1
  have HQ2 := Lib.hid q2
  have HJ1 := Lib.hid j1
  have HJ2 := Lib.hid j2
  clear IH hA hB hx hy q1 q2 j1 j2
  go_enter Try.func129, Try.ntmps129
  go_wp2_with fail
  refine (options_calls v1 v2 l w).mono ?_
  rintro e w1 ⟨rfl, hb⟩
  obtain ⟨vo, Lo, hvo, hio, hLo⟩ : ∃ vo Lo, (if l then v1 else v2) = vo ∧ IntsZ w1 0 base vo (upL Lo) ∧ Hid (optsD A i l = Lo) := by
    cases l with
    | true => exact ⟨v1, x.1, rfl, i1.below hb (by omega), Lib.hid (by rw [L1.out]; rfl)⟩
    | false => exact ⟨v2, x.2, rfl, i2.below hb (by omega), Lib.hid (by rw [L1.out]; rfl)⟩
  rw [hvo]
  rw [hLo.out] at HW HL1
  have HC := Lib.hid (h.below hb)
  have HA : Hid (Asked base g n cap A B w w1) := Lib.hid ⟨cs, hw, hr.below hb, Only.of_below hb⟩
  obtain ⟨ao, co, rfl, hco⟩ := ints_len hio
  have HIO := Lib.hid hio
  clear h hr hb i1 i2 p1 p2 k0 hvo L1 hio hw hLo
  go_wp2
  go_loopw [23] (fun q wr => ∃ k : Nat, k ≤ Lo.length ∧ q = .int .i64 k ∧ Hid ((Lo.take k).any (fun o => !winF A B o j (!l)) = false) ∧ Hid (Asked base g n cap A B w wr) ∧ Hid (Ct wr base P g n cap A B (.slice (some ⟨b1, o1, none⟩) A.length c1) (.slice (some ⟨b2, o2, none⟩) B.length c2)) ∧ Hid (IntsZ wr 0 base (.slice ao Lo.length co) (upL Lo))) (fun q _ => Lo.length - (intOf q).toNat)
  case atStart => exact ⟨0, Nat.zero_le _, rfl, Lib.hid (by simp), HA, HC, HIO⟩
  case round =>
    obtain ⟨k, hk, rfl, hany, ha, hc, hio⟩ := hrel
    clear HA HC HIO
    have hgl := ha.out.only.size
    by_cases hlt : k < Lo.length
    · obtain ⟨o, ho⟩ := lt_get hlt
      have hoi := HL1.out o (List.mem_of_getElem? ho)
      obtain ⟨b, off, rfl, hbb, hcell⟩ := ints_at hio.out ho
      obtain ⟨r, hr⟩ : ∃ r, winF A B o j (!l) = r := ⟨_, rfl⟩
      have C := Lib.hid (show ∀ W, Below wr.heap.size wr W → Calls Try.prog 101 #[.pointer (some ⟨P, 0, none⟩), .int .i64 o, .int .i64 j, .bool (!l)] W fun e w' => e = .returned (.bool r) ∧ Asked base g n cap A B W w' from fun W hW => by
        obtain ⟨cs', h1, h2, h3⟩ := ha.out
        rw [← hr]
        exact HIH.out o j (!l) cs' W (by omega) (by omega) hj (hc.out.below hW) h1 (h2.below hW))
      have HO := Lib.hid ho
      have HRR := Lib.hid hr
      clear ho hr
      have b0 : (0 : Int) ≤ k := by omega
      have b1' : (k : Int) < Lo.length := by omega
      cases r with
      | false =>
        have R : Hid (wiC A B i j l = 1) := Lib.hid (by
          unfold wiC
          rw [HW.out, any_at Lo _ k o HO.out (by simp [HRR.out])]
          rfl)
        go_wp2_with fail
        refine (C.out _ (Below.refl _ _)).mono ?_
        rintro e w2 ⟨rfl, ha2⟩
        have HA2 := Lib.hid (ha.out.trans ha2)
        clear ha2
        go_wp2_with fail
        go_ret
        exact ⟨ret_int R.out.symm, HA2.out⟩
      | true =>
        have R : Hid ((Lo.take (k + 1)).any (fun o => !winF A B o j (!l)) = false) := Lib.hid (any_take_false Lo _ k o HO.out hany.out (by simp [HRR.out]))
        go_wp2_with fail
        refine (C.out _ (Below.refl _ _)).mono ?_
        rintro e w2 ⟨rfl, ha2⟩
        have HA2 := Lib.hid (ha.out.trans ha2)
        have HC2 := Lib.hid (hc.out.only ha2.only)
        have HI2 := Lib.hid (hio.out.keep (ha2.same hbz (by omega)))
        clear ha2
        go_wp2_with fail
        go_roundw
        case rel => exact ⟨k + 1, by omega, by go_num, R, HA2, HC2, HI2⟩
        case measure => simp [intOf]; omega
    · have HAN : Hid (Lo.any (fun o => !winF A B o j (!l)) = false) := Lib.hid (by
        have := hany.out
        rwa [List.take_of_length_le (by omega)] at this)
      clear hany hio HL1
      obtain ⟨W1, hW1⟩ : ∃ W, W = wr := ⟨_, rfl⟩
      subst hW1
      have hsm := ha.out.same hbz hbz2
      have k1 := hc.out.c1
      have p1 := (hsm b2 (o2 + j * 2) (Nat.zero_le _) hb2).trans HQ1.out
      have p2 := (hsm b2 (o2 + j * 2 + 1) (Nat.zero_le _) hb2).trans HQ2.out
      have i1 := Lib.hid (HJ1.out.keep hsm)
      have i2 := Lib.hid (HJ2.out.keep hsm)
      have bj : (j : Int) < B.length := by omega
      clear hsm HQ1 HQ2 HJ1 HJ2 HC0
      go_wp2_with fail
      refine (options_calls u1 u2 (!l) W1).mono ?_
      rintro e w2 ⟨rfl, hb⟩
      obtain ⟨vo, Lp, hvo, hio, hLo⟩ : ∃ vo Lp, (if !l then u1 else u2) = vo ∧ IntsZ w2 0 base vo (upL Lp) ∧ Hid (optsD B j (!l) = Lp) := by
        cases l with
        | false => exact ⟨u1, y.1, rfl, i1.out.below hb (by omega), Lib.hid (by rw [L2.out]; rfl)⟩
        | true => exact ⟨u2, y.2, rfl, i2.out.below hb (by omega), Lib.hid (by rw [L2.out]; rfl)⟩
      rw [hvo]
      rw [hLo.out] at HW HL2
      have HC := Lib.hid (hc.out.below hb)
      have HA : Hid (Asked base g n cap A B w w2) := Lib.hid (ha.out.below hb)
      obtain ⟨ap, cp, rfl, hcp⟩ := ints_len hio
      have HIO := Lib.hid hio
      clear hb i1 i2 p1 p2 k1 hvo L2 hio hLo ha hc
      go_wp2
      go_loopw [46] (fun q wr => ∃ k : Nat, k ≤ Lp.length ∧ q = .int .i64 k ∧ Hid ((Lp.take k).any (fun o => !winF A B i o (!l)) = false) ∧ Hid (Asked base g n cap A B w wr) ∧ Hid (Ct wr base P g n cap A B (.slice (some ⟨b1, o1, none⟩) A.length c1) (.slice (some ⟨b2, o2, none⟩) B.length c2)) ∧ Hid (IntsZ wr 0 base (.slice ap Lp.length cp) (upL Lp))) (fun q _ => Lp.length - (intOf q).toNat)
      case atStart => exact ⟨0, Nat.zero_le _, rfl, Lib.hid (by simp), HA, HC, HIO⟩
      case round =>
        obtain ⟨m, hm, rfl, hany, ha, hc, hio⟩ := hrel
        clear HA HC HIO
        have hgl := ha.out.only.size
        by_cases hlt2 : m < Lp.length
        · obtain ⟨o, ho⟩ := lt_get hlt2
          have hoi := HL2.out o (List.mem_of_getElem? ho)
          obtain ⟨b, off, rfl, hbb, hcell⟩ := ints_at hio.out ho
          obtain ⟨r, hr⟩ : ∃ r, winF A B i o (!l) = r := ⟨_, rfl⟩
          have C := Lib.hid (show ∀ W, Below wr.heap.size wr W → Calls Try.prog 101 #[.pointer (some ⟨P, 0, none⟩), .int .i64 i, .int .i64 o, .bool (!l)] W fun e w' => e = .returned (.bool r) ∧ Asked base g n cap A B W w' from fun W hW => by
            obtain ⟨cs', h1, h2, h3⟩ := ha.out
            rw [← hr]
            exact HIH.out i o (!l) cs' W (by omega) hi (by omega) (hc.out.below hW) h1 (h2.below hW))
          have HO := Lib.hid ho
          have HRR := Lib.hid hr
          clear ho hr
          have b0 : (0 : Int) ≤ m := by omega
          have b1' : (m : Int) < Lp.length := by omega
          cases r with
          | false =>
            have R : Hid (wiC A B i j l = 1) := Lib.hid (by
              unfold wiC
              rw [HW.out, any_at Lp _ m o HO.out (by simp [HRR.out]), Bool.or_true]
              rfl)
            go_wp2_with fail
            refine (C.out _ (Below.refl _ _)).mono ?_
            rintro e w3 ⟨rfl, ha2⟩
            have HA2 := Lib.hid (ha.out.trans ha2)
            clear ha2
            go_wp2_with fail
            go_ret
            exact ⟨ret_int R.out.symm, HA2.out⟩
          | true =>
            have R : Hid ((Lp.take (m + 1)).any (fun o => !winF A B i o (!l)) = false) := Lib.hid (any_take_false Lp _ m o HO.out hany.out (by simp [HRR.out]))
            go_wp2_with fail
            refine (C.out _ (Below.refl _ _)).mono ?_
            rintro e w3 ⟨rfl, ha2⟩
            have HA2 := Lib.hid (ha.out.trans ha2)
            have HC2 := Lib.hid (hc.out.only ha2.only)
            have HI2 := Lib.hid (hio.out.keep (ha2.same hbz (by omega)))
            clear ha2
            go_wp2_with fail
            go_roundw
            case rel => exact ⟨m + 1, by omega, by go_num, R, HA2, HC2, HI2⟩
            case measure => simp [intOf]; omega
        · have R : Hid (wiC A B i j l = 2) := Lib.hid (by
            have := hany.out
            rw [List.take_of_length_le (by omega)] at this
            unfold wiC
            rw [HW.out, HAN.out, this]
            rfl)
          clear hany hio
          go_wp2_with fail
          go_ret
          exact ⟨ret_int R.out.symm, ha.out⟩

theorem asked_put {base P g n cap : Nat} {A B : List Nd} {va vb : Value} {w w2 : World} {i j p : Nat} {l : Bool} {wv : Int} (h : Ct w base P g n cap A B va vb) (ha : Asked base g n cap A B w w2) (hi : i < A.length) (hj : j < B.length) (hp : plc B.length i j l = p) (hwv : wiC A B i j l = wv) :
    w2.cell? ⟨P, 2, none⟩ = some (.slice (some ⟨g, 0, none⟩) n cap) ∧ (∃ u, w2.cell? ⟨g, p, none⟩ = some (.int .i8 u)) ∧ w2.frozen? ⟨g, p, none⟩ = false ∧ Hid (Asked base g n cap A B w (w2.setCell ⟨g, p, none⟩ (.int .i8 wv))) ∧
      (w2.setCell ⟨g, p, none⟩ (.int .i8 wv)).cell? ⟨P, 2, none⟩ = some (.slice (some ⟨g, 0, none⟩) n cap) ∧ (w2.setCell ⟨g, p, none⟩ (.int .i8 wv)).cell? ⟨g, p, none⟩ = some (.int .i8 wv) := by
  subst hp hwv
  have h2 := h.only ha.only
  obtain ⟨cs, hw, hr, ho⟩ := ha
  obtain ⟨v, hv⟩ := lt_get (l := cs) (i := plc B.length i j l) (by rw [hw.1]; exact plc_lt hi hj)
  obtain ⟨c0, f0⟩ := hr.at_ hv
  obtain ⟨hr2, ho2⟩ := hr.put (x := plc B.length i j l) (v := wiC A B i j l)
  exact ⟨h2.c2, ⟨v, c0⟩, f0, Lib.hid ⟨_, hw.set hi hj, hr2, ho.trans ho2 (fun _ _ h => h)⟩, (h2.only ho2).c2, World.cell?_setCell_same _ _ _ c0⟩

set_option maxRecDepth 100000 in
set_option maxHeartbeats 4000000 in
theorem wins_step (base P g n cap : Nat) (A B : List Nd) (va vb : Value) (hA : Under A) (hB : Under B) (hAl : A.length ≤ 1000) (hBl : B.length ≤ 1000) (i j : Nat) (l : Bool) (IH : WinsB base P g n cap A B va vb (i + j)) (cs : List Int) (w : World) (hi : i < A.length) (hj : j < B.length)
    (h : Ct w base P g n cap A B va vb) (hw : Wn A B cs) (hr : RowV base g n cap cs w) :
    Calls Try.prog 101 #[.pointer (some ⟨P, 0, none⟩), .int .i64 i, .int .i64 j, .bool l] w fun e w' => e = .returned (.bool (winF A B i j l)) ∧ Asked base g n cap A B w w' := by
  have hdr : Below w.heap.size w w.drew := below_drewN (Below.refl _ _) 1
  have C0 := (search_calls base P g n cap A B va vb hA hB i j l IH cs w.drew hi hj (h.below hdr) hw (hr.below hdr)).mono fun e w' hp => (⟨hp.1, Asked.trans ⟨cs, hw, hr.below hdr, Only.of_below hdr⟩ hp.2⟩ : e = .returned (.int .i8 (wiC A B i j l)) ∧ Asked base g n cap A B w w')
  clear hdr
  have hn : n = 2 * (A.length * B.length) := by have := hr.1; rw [List.length_map, hw.1] at this; omega
  have hp := plc_lt (l := l) hi hj
  obtain ⟨q, hq⟩ : ∃ q, i * B.length = q := ⟨_, rfl⟩
  have hqi : (i : Int) * (B.length : Int) = (q : Int) := by rw [← hq]; simp
  have hqb : q ≤ 1000000 := by rw [← hq]; exact Nat.le_trans (Nat.mul_le_mul (show i ≤ 1000 by omega) hBl) (by omega)
  obtain ⟨ao, c2, rfl, hcb⟩ := (show ∃ ao c, vb = .slice ao B.length c ∧ B.length ≤ c from by obtain ⟨ao, c, e, h1, _⟩ := h.nb; rw [List.length_map] at e h1; exact ⟨ao, c, e, h1.1⟩)
  have hlt : plc B.length i j l < n := by rw [hn]; exact hp
  obtain ⟨v, hv⟩ := lt_get (l := cs) (i := plc B.length i j l) (by rw [hw.1]; exact hp)
  have hent := hw.2 i j l hi hj
  rw [hv] at hent
  obtain ⟨c0, f0⟩ := hr.at_ hv
  obtain ⟨p0, hp0⟩ : ∃ p0, 2 * (q + j) = p0 := ⟨_, rfl⟩
  have hpi : 2 * ((q : Int) + (j : Int)) = (p0 : Int) := by omega
  have hpl : plc B.length i j l = p0 + ofB l := by unfold plc; rw [hq, hp0]
  have k1 := h.c1
  have k2 := h.c2
  have HA0 : Hid (Asked base g n cap A B w w) := Lib.hid ⟨cs, hw, hr, Only.refl _ _⟩
  obtain ⟨r, hwr⟩ : ∃ r, winF A B i j l = r := ⟨_, rfl⟩
  obtain ⟨wv, hwv⟩ : ∃ wv, wiC A B i j l = wv := ⟨_, rfl⟩
  have hwv2 : wv = if r then 1 else 2 := by rw [← hwv, ← hwr]; rfl
  have HF := Lib.hid fun w2 (ha : Asked base g n cap A B w w2) => asked_put h ha hi hj hpl hwv
  rw [hwr]
  rw [hwv] at C0 hent
  have C := Lib.hid C0
  rw [hpl] at hlt c0 f0
  have hjb : (j : Int) ≤ 1000 := by omega
  have hp0b : (p0 : Int) ≤ 2002000 := by omega
  have hp00 : (0 : Int) ≤ p0 := by omega
  clear hq hp0 hn hp hr hw hv hpl h IH hA hB C0 hwr hwv hAl hBl
  cases l with
  | false =>
    have e0 : p0 + ofB false = p0 := rfl
    rw [e0] at hlt c0 f0 HF
    have hltI : (p0 : Int) < n := by omega
    clear e0
    have hv2 : v = wv ∨ v = 0 := by
      rcases hent with e | e
      · right; injection e
      · left; injection e
    clear hent
    rcases hv2 with e | e
    · have v0 : (v == 0) = false := by rw [e, hwv2]; cases r <;> rfl
      have v1 : (v == 1) = r := by rw [e, hwv2]; cases r <;> rfl
      clear e hwv2 C HF
      go_enter Try.func101, Try.ntmps101
      go_wp2_with fail
      go_ret
      exact ⟨rfl, HA0.out⟩
    · subst e
      have v1 : (wv == 1) = r := by rw [hwv2]; cases r <;> rfl
      clear hwv2 HA0
      go_enter Try.func101, Try.ntmps101
      go_wp2_with fail
      go_region_with (go_at_call 129; (with_reducible refine C.out.mono ?_); rintro e w2 ⟨rfl, ha⟩; obtain ⟨d2, ⟨u, d0⟩, df, HA2, d3, d4⟩ := HF.out w2 ha; clear ha)
      all_goals
        go_wp2_with fail
        go_ret
        exact ⟨rfl, HA2.out⟩
  | true =>
    have e0 : p0 + ofB true = p0 + 1 := rfl
    rw [e0] at hlt c0 f0 HF
    have hltI : (p0 : Int) + 1 < n := by omega
    clear e0
    have hv2 : v = wv ∨ v = 0 := by
      rcases hent with e | e
      · right; injection e
      · left; injection e
    clear hent
    rcases hv2 with e | e
    · have v0 : (v == 0) = false := by rw [e, hwv2]; cases r <;> rfl
      have v1 : (v == 1) = r := by rw [e, hwv2]; cases r <;> rfl
      clear e hwv2 C HF
      go_enter Try.func101, Try.ntmps101
      go_wp2_with fail
      go_ret
      exact ⟨rfl, HA0.out⟩
    · subst e
      have v1 : (wv == 1) = r := by rw [hwv2]; cases r <;> rfl
      clear hwv2 HA0
      go_enter Try.func101, Try.ntmps101
      go_wp2_with fail
      go_region_with (go_at_call 129; (with_reducible refine C.out.mono ?_); rintro e w2 ⟨rfl, ha⟩; obtain ⟨d2, ⟨u, d0⟩, df, HA2, d3, d4⟩ := HF.out w2 ha; clear ha)
      all_goals
        go_wp2_with fail
        go_ret
        exact ⟨rfl, HA2.out⟩

theorem wins_calls (base P g n cap : Nat) (A B : List Nd) (va vb : Value) (hA : Under A) (hB : Under B) (hAl : A.length ≤ 1000) (hBl : B.length ≤ 1000) : ∀ s, WinsB base P g n cap A B va vb s
  | 0 => fun i j l cs w h => by omega
  | s + 1 => fun i j l cs w hs hi hj h hw hr => by
    have IH := wins_calls base P g n cap A B va vb hA hB hAl hBl s
    exact wins_step base P g n cap A B va vb hA hB hAl hBl i j l (fun i' j' l' cs' w' hs' hi' hj' h' hw' hr' => IH i' j' l' cs' w' (by omega) hi' hj' h' hw' hr') cs w hi hj h hw hr

end Go.Proofs.Ytjllpcnbahdmhaa
