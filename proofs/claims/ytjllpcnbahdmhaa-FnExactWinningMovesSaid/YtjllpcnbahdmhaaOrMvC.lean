/- The program's winningMoves of a contest. -/
import Derived.Test.YtjllpcnbahdmhaaOrMvV
import Derived.Deep.Onto
namespace Go.Proofs.Ytjllpcnbahdmhaa
open Go.RowKit
set_option linter.unusedVariables false
set_option linter.unusedSimpArgs false

set_option maxRecDepth 100000 in
set_option maxHeartbeats 4000000 in
theorem movesC_calls (base P gg n cap : Nat) (A B : List Nd) (va vb : Value) (hA : Under A) (hB : Under B) (hAl : A.length ≤ 1000) (hBl : B.length ≤ 1000) (h0 : 0 < A.length) (h1 : 0 < B.length) (l : Bool) (Lo : List Nat) (ms : List Int) (hLo : Hid (optsD A (A.length - 1) l = Lo)) (hL24 : Lo.length ≤ 1000)
    (HM : Hid (movesG A B Lo l Lo.length = ms)) (w : World) (h : Ct w base P gg n cap A B va vb) (cs : List Int) (hw : Wn A B cs) (hr : RowV base gg n cap cs w) :
    Calls Try.prog 61 #[.pointer (some ⟨P, 0, none⟩), .bool l] w fun e w' => ∃ v, e = .returned v ∧ OwnI w' w.heap.size v ms ∧ Asked base gg n cap A B w w' := by
  obtain ⟨i0, hi0, hz0, hz1, hz2⟩ := info_parts infoIntA
  obtain ⟨x, hx⟩ := lt_get (l := A) (i := A.length - 1) (by omega)
  obtain ⟨b, off, cc, v1, v2, rfl, hbh, p1, p2, i1, i2⟩ := nodes_at h.na hx
  obtain ⟨a2, b2, rfl⟩ : ∃ ao c, vb = .slice ao B.length c := by obtain ⟨ao, c, e, _⟩ := h.nb; rw [List.length_map] at e; exact ⟨ao, c, e⟩
  have hbz := h.hg
  have hbz2 := h.hgl
  have k0 := h.c0
  have k1 := h.c1
  have hPl := block_of_cell k0
  have HC := Lib.hid h
  have L1 : Hid (optsD A (A.length - 1) l = if l then x.1 else x.2) := Lib.hid (by unfold optsD; rw [nodeD_at hx])
  have HL1 : Hid (∀ o, o ∈ Lo → o < A.length) := Lib.hid (fun o ho => by rw [← hLo.out] at ho; have := optsD_lt hA ho; omega)
  have CW : Hid (∀ (o : Nat), o < A.length → ∀ (r : Bool), winF A B o (B.length - 1) (!l) = r → ∀ W, Ct W base P gg n cap A B (.slice (some ⟨b, off, none⟩) A.length cc) (.slice a2 B.length b2) → Asked base gg n cap A B w W → Calls Try.prog 101 #[.pointer (some ⟨P, 0, none⟩), .int .i64 o, .int .i64 (B.length - 1 : Nat), .bool (!l)] W fun e w' => e = .returned (.bool r) ∧ Asked base gg n cap A B W w') := Lib.hid (fun o ho r hr W hcW haW => by
    obtain ⟨cs', h1', h2, h3⟩ := haW
    have C := wins_calls base P gg n cap A B _ _ hA hB hAl hBl (o + (B.length - 1) + 1) o (B.length - 1) (!l) cs' W (by omega) ho (by omega) hcW h1' h2
    rw [hr] at C
    exact C)
  have e1 : (A.length : Int) - 1 = ((A.length - 1 : Nat) : Int) := by omega
  have e2 : (B.length : Int) - 1 = ((B.length - 1 : Nat) : Int) := by omega
  have q1 : (A.length : Int) ≤ 1000 := by omega
  have q2 : (B.length : Int) ≤ 1000 := by omega
  have w1 : IntKind.i64.wrap ((A.length : Int) - 1) = ((A.length - 1 : Nat) : Int) := by rw [IntWalk.i64_in _ (by omega), e1]
  have w2 : IntKind.i64.wrap ((B.length : Int) - 1) = ((B.length - 1 : Nat) : Int) := by rw [IntWalk.i64_in _ (by omega), e2]
  have q3 : ((A.length - 1 : Nat) : Int) < A.length := by omega
  have hBL : Hid (1 ≤ B.length) := Lib.hid h1
  have HW0 : Hid (∀ W, Below w.heap.size w W → Asked base gg n cap A B w W) := Lib.hid (fun W hW => ⟨cs, hw, hr.below hW, Only.of_below hW⟩)
  have hI1 := Lib.hid i1
  have hI2 := Lib.hid i2
  obtain ⟨vo, hvo, hio⟩ : ∃ vo, (if l then v1 else v2) = vo ∧ IntsZ w 0 base vo (upL Lo) := by
    rw [← hLo.out, L1.out]
    cases l with
    | true => exact ⟨v1, rfl, hI1.out⟩
    | false => exact ⟨v2, rfl, hI2.out⟩
  obtain ⟨ao, co, rfl, hco⟩ := ints_len hio
  have HIW := Lib.hid hio
  have CO := Lib.hid fun W => (options_calls v1 v2 l W).mono fun e w' hp => (by rw [← hvo]; exact hp : e = .returned (.slice ao Lo.length co) ∧ Below W.heap.size W w')
  clear hvo hio
  clear h hw hr hA hB hx i1 i2 e1 e2
  go_enter Try.func61, Try.ntmps61
  have hbd : Below w.heap.size w w.drew := below_drewN (Below.refl _ _) 1
  have HBD := Lib.hid hbd
  clear hbd
  go_upto_region 2 with fail
  go_cut [21, 22, 23] (fun s21 s22 s23 wx => s21 = .slice ao Lo.length co ∧ s22 = .int .i64 Lo.length ∧ s23 = .int .i64 0 ∧ Below w.heap.size w wx)
  case first =>
    go_region_with (go_at_call 95; (with_reducible refine (CO.out _).mono ?_); rintro e wc ⟨rfl, hb⟩)
    all_goals
      go_wp2_with fail
      go_meet
      exact ⟨rfl, rfl, rfl, HBD.out.trans (hb.mono (Nat.le_refl _))⟩
  case rest =>
    obtain ⟨rfl, rfl, rfl, hb⟩ := hcut
    have HBC := Lib.hid hb
    have HC1 := Lib.hid (HC.out.below HBC.out)
    have HA0 := Lib.hid (HW0.out wc HBC.out)
    have HIO := Lib.hid (HIW.out.below HBC.out (by omega))
    have hsz0 := HBC.out.size
    have HO0 : Hid (OwnI wc w.heap.size (.slice none 0 0) (movesG A B Lo l 0)) := Lib.hid (OwnI.nil _ _)
    clear hb p1 p2 k0 k1 hLo L1 HC HW0 HBD hI1 hI2 HIW CO
    go_wp2
    go_loopw [5, 23] (fun q i wr => ∃ k : Nat, k ≤ Lo.length ∧ i = .int .i64 k ∧ Hid (OwnI wr w.heap.size q (movesG A B Lo l k)) ∧ Hid (Asked base gg n cap A B w wr) ∧ Hid (Ct wr base P gg n cap A B (.slice (some ⟨b, off, none⟩) A.length cc) (.slice a2 B.length b2)) ∧ Hid (IntsZ wr 0 base (.slice ao Lo.length co) (upL Lo)) ∧ w.heap.size ≤ wr.heap.size) (fun _ i _ => Lo.length - (intOf i).toNat)
    case atStart => exact ⟨0, Nat.zero_le _, rfl, HO0, HA0, HC1, HIO, hsz0⟩
    case round =>
      obtain ⟨k, hk, rfl, hown, ha, hc, hio, hsz⟩ := hrel
      clear HO0 HA0 HC1 HIO HBC hsz0
      by_cases hlt : k < Lo.length
      · obtain ⟨o, ho⟩ := lt_get hlt
        have hoi := HL1.out o (List.mem_of_getElem? ho)
        obtain ⟨b', off', rfl, hbb, hcell⟩ := ints_at hio.out ho
        obtain ⟨r, hr⟩ : ∃ r, winF A B o (B.length - 1) (!l) = r := ⟨_, rfl⟩
        have HS := Lib.hid (movesG_succ A B Lo l k o r ho hr)
        have C := Lib.hid (fun W (hW : Below wr.heap.size wr W) => CW.out o hoi r hr W (hc.out.below hW) (ha.out.below hW))
        have k1 := hc.out.c1
        clear ho hr
        have b0 : (0 : Int) ≤ k := by omega
        have b1' : (k : Int) < Lo.length := by omega
        cases r with
        | true =>
          have HS2 : Hid (movesG A B Lo l (k + 1) = movesG A B Lo l k) := Lib.hid (by rw [HS.out]; simp)
          clear HS
          go_wp2_with fail
          refine (C.out _ (Below.refl _ _)).mono ?_
          rintro e w2 ⟨rfl, ha2⟩
          have ho2 := ha2.only
          have A2 := Lib.hid (ha.out.trans ha2)
          have C2 := Lib.hid (hc.out.only ho2)
          have I2 := Lib.hid (hio.out.keep (ha2.same hbz (by omega)))
          have O2 : Hid (OwnI w2 w.heap.size u5 (movesG A B Lo l (k + 1))) := Lib.hid (by rw [HS2.out]; exact hown.out.only ho2 (fun g h e => by have := hown.out.lt g h; omega))
          have hs2 := ho2.size
          clear ha2 ho2 hown ha hc hio C HS2 k1
          go_wp2_with fail
          go_roundw
          case rel => exact ⟨k + 1, by omega, by go_num, O2, A2, C2, I2, by omega⟩
          case measure => simp [intOf]; omega
        | false =>
          have HS2 : Hid (movesG A B Lo l (k + 1) = movesG A B Lo l k ++ [(k : Int)]) := Lib.hid (by rw [HS.out]; simp)
          clear HS
          go_wp2_with fail
          refine (C.out _ (Below.refl _ _)).mono ?_
          rintro e w2 ⟨rfl, ha2⟩
          have ho2 := ha2.only
          have A2 := Lib.hid (ha.out.trans ha2)
          have C2 := Lib.hid (hc.out.only ho2)
          have I2 := Lib.hid (hio.out.keep (ha2.same hbz (by omega)))
          have O2 : Hid (OwnI w2 w.heap.size u5 (movesG A B Lo l k)) := Lib.hid (hown.out.only ho2 (fun g h e => by have := hown.out.lt g h; omega))
          have hs2 := ho2.size
          have hml := movesG_len A B Lo l k
          clear ha2 ho2 hown ha hc hio C k1
          go_wp2_with (at_builtin; refine wpList_append_own_at _ rfl _ _ 35 rfl w.heap.size 3 i0 (.int .i64 0) 1 8 Try.underlying35 hi0 hz0 hz1 hz2 rfl (by decide) _ _ _ rfl (World.ownsRow.alloc O2.out _) ⟨w2.heap.size, 0, none⟩ 1 1 [.int .i64 (k : Int)] rfl rfl ?e1 ?e2 ?e3 ?e4 ?e5 ?_)
          case e1 => exact World.news_of_block (heap_alloc_new _ _)
          case e2 => first | rfl | (intro u hu; simp at hu; subst hu; rfl)
          case e3 => unfold maxLen; omega
          case e4 => omega
          case e5 => simp; omega
          intro v6 w6 hown6 hgrow6 hnil6 hat6
          have O6 : Hid (OwnI w6 w.heap.size v6 (movesG A B Lo l (k + 1))) := Lib.hid (by rw [HS2.out]; unfold OwnI; rw [List.map_append, List.length_append]; exact hown6)
          have hfar : Only w2 w6 (fun b => w.heap.size ≤ b) := (Only.of_below (F := fun b => w.heap.size ≤ b) ((Below.refl _ _).alloc (Nat.le_refl _) _)).trans (Only.of_grown (F := fun b => w.heap.size ≤ b) hgrow6 (fun g e => (O2.out.lt g e).1)) (fun _ _ h => h)
          have A6 := Lib.hid (A2.out.far hfar hbz2 (Nat.le_refl _))
          have C6 := Lib.hid (C2.out.far hfar hPl hbz2 (by omega))
          have I6 := Lib.hid (I2.out.keep (hfar.sameIn (hi := base) (by omega) (fun b hb e => by omega)))
          have hs6 := hfar.size
          clear hown6 hgrow6 hnil6 hat6 hfar A2 C2 I2 O2 HS2
          go_wp2_with fail
          go_roundw
          case rel => exact ⟨k + 1, by omega, by go_num, O6, A6, C6, I6, by omega⟩
          case measure => simp [intOf]; omega
      · have hke : k = Lo.length := by omega
        subst hke
        rw [HM.out] at hown
        clear hc hio HM HL1 CW
        go_wp2_with fail
        go_ret
        exact ⟨_, rfl, hown.out, ha.out⟩

end Go.Proofs.Ytjllpcnbahdmhaa
