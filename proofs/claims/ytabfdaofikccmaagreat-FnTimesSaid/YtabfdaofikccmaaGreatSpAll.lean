/- impl.goodPair. -/
import Derived.Test.YtabfdaofikccmaaGreatSmM
import Derived.Test.YtabfdaofikccmaaGreatInAll
import Derived.Laws.EntriesVeiled
namespace Go.Proofs.YtabfdaofikccmaaGreat
section
section
open Go.RowKit
set_option linter.unusedVariables false
set_option linter.unusedSimpArgs false

theorem mul_cast {m n : Nat} (h : m * n ≤ 1000000) : IntKind.i64.wrap ((m : Int) * (n : Int)) = ((m * n : Nat) : Int) := by
  rw [← Int.natCast_mul]
  exact IntWalk.i64_in _ (by omega)

theorem pairB_parts {f g : List Nz} {r1 r2 r : Bool} (h1 : goodB f = r1) (h2 : goodB g = r2) (hr : pairB f g = r) : r = (r1 && (r2 && decide (f.length * g.length ≤ 1600))) := by
  rw [← hr, ← h1, ← h2]; rfl

set_option maxRecDepth 100000 in
set_option maxHeartbeats 2000000 in
theorem goodPair_calls (va vb : Value) (f g : List Nz) (r : Bool) (hr : Hid (pairB f g = r)) (w : World) (lo hi lo' hi' : Nat) (hh : hi ≤ w.heap.size) (hh' : hi' ≤ w.heap.size) (hva : NodesZ w lo hi va f) (hvb : NodesZ w lo' hi' vb g) :
    Calls Tryz.prog 67 #[.agg #[va], .agg #[vb]] w fun e w' => e = .returned (.bool r) ∧ Below w.heap.size w w' := by
  have HB0 := Lib.hid fun o o' => show Below w.heap.size w ((w.alloc o).alloc o') from ((Below.refl _ _).alloc (Nat.le_refl _) _).alloc (by simp) _
  obtain ⟨r1, h1⟩ : ∃ r, goodB f = r := ⟨_, rfl⟩
  obtain ⟨r2, h2⟩ : ∃ r, goodB g = r := ⟨_, rfl⟩
  have HR := Lib.hid (pairB_parts h1 h2 hr.out)
  have HLA : Hid (r1 = true → f.length ≤ 120) := Lib.hid (fun e => (good_parts (h1.trans e)).2.2.2.2.1)
  have HLB : Hid (r2 = true → g.length ≤ 120) := Lib.hid (fun e => (good_parts (h2.trans e)).2.2.2.2.1)
  have CA := Lib.hid fun (W : World) (hW : Below w.heap.size w W) => goodI_resN va f r1 (Lib.hid h1) W lo hi (Nat.le_trans hh hW.size) (hva.below hW hh)
  have CB := Lib.hid fun (W : World) (hW : Below w.heap.size w W) => goodI_resN vb g r2 (Lib.hid h2) W lo' hi' (Nat.le_trans hh' hW.size) (hvb.below hW hh')
  obtain ⟨aa, ca, rfl⟩ : ∃ ao c, va = .slice ao f.length c := by obtain ⟨ao, c, e, _⟩ := hva; exact ⟨ao, c, e⟩
  obtain ⟨ab, cb, rfl⟩ : ∃ ao c, vb = .slice ao g.length c := by obtain ⟨ao, c, e, _⟩ := hvb; exact ⟨ao, c, e⟩
  clear h1 h2 hr hva hvb
  go_enter Tryz.func67, Tryz.ntmps67
  go_wp2_with fail
  refine (CA.out _ (HB0.out _ _)).mono ?_
  rintro e w4 ⟨rfl, hb4⟩
  have k1 : w4.cell? ⟨w.heap.size, 0, none⟩ = some (.slice aa f.length ca) := (bcell hb4 _ _ (by simp; omega)).trans (by go_simp)
  have k2 : w4.cell? ⟨w.heap.size + 1, 0, none⟩ = some (.slice ab g.length cb) := (bcell hb4 _ _ (by simp)).trans (by go_simp)
  have HB4 := Lib.hid (Below.trans (HB0.out _ _) (hb4.mono (by simp; omega)))
  clear hb4 CA
  cases r1 with
  | false =>
    obtain rfl := HR.out
    go_wp2_with fail
    go_ret
    exact ⟨rfl, HB4.out⟩
  | true =>
    have b1 := block_of_cell k1
    have b2 := block_of_cell k2
    go_wp2_with fail
    refine (CB.out _ HB4.out).mono ?_
    rintro e w5 ⟨rfl, hb5⟩
    have k1 := (bcell hb5 _ _ b1).trans k1
    have k2 := (bcell hb5 _ _ b2).trans k2
    have HB5 := Lib.hid (HB4.out.trans (hb5.mono HB4.out.size))
    clear hb5 b1 b2
    cases r2 with
    | false =>
      obtain rfl := HR.out
      go_wp2_with fail
      go_ret
      exact ⟨rfl, HB5.out⟩
    | true =>
      have hla : f.length ≤ 120 := by have h := HLA.out; simpa using h
      have hlb : g.length ≤ 120 := by have h := HLB.out; simpa using h
      have hAB : f.length * g.length ≤ 120 * 120 := Nat.mul_le_mul hla hlb
      obtain ⟨n, hn⟩ : ∃ n : Nat, f.length * g.length = n := ⟨_, rfl⟩
      have HR2 : Hid (r = decide (n ≤ 1600)) := Lib.hid (by rw [HR.out, hn]; rfl)
      have hwm : IntKind.i64.wrap ((f.length : Int) * (g.length : Int)) = (n : Int) := by rw [mul_cast (by omega), hn]
      rw [hn] at hAB
      clear hn HR
      have hde : decide ((n : Int) ≤ 1600) = r := by rw [HR2.out]; exact decide_eq_decide.2 (by clear hwm; omega)
      go_wp2_with fail
      go_ret
      exact ⟨by first | rfl | exact ret_bool hde, HB5.out⟩

end
end

section
section
open Go.RowKit
set_option linter.unusedVariables false
set_option linter.unusedSimpArgs false

theorem optPick_calls (v1 v2 v : Value) (left : Bool) (hv : Hid ((if left then v1 else v2) = v)) (w : World) :
    Calls Tryz.prog 126 #[.agg #[v1, v2], .bool left] w fun e w' => e = .returned v ∧ Below w.heap.size w w' := by
  have hb : Below w.heap.size w (w.alloc (.cells #[v1, v2] 67)) := (Below.refl _ _).alloc (Nat.le_refl _) _
  have HB := Lib.hid hb
  clear hb
  cases left with
  | true =>
    have h := hv.out
    simp at h
    subst h
    go_enter Tryz.func126, Tryz.ntmps126
    go_wp2
    go_ret
    exact ⟨rfl, HB.out⟩
  | false =>
    have h := hv.out
    simp at h
    subst h
    go_enter Tryz.func126, Tryz.ntmps126
    go_wp2
    go_ret
    exact ⟨rfl, HB.out⟩

theorem cast_pair (i n j : Nat) : ((i * n + j : Nat) : Int) = (i : Int) * (n : Int) + (j : Int) := by rw [Int.natCast_add, Int.natCast_mul]

set_option maxHeartbeats 1000000 in
theorem place_calls (i j n pb c : Nat) (a : Option Addr) (w : World) (h : w.cell? ⟨pb, 0, none⟩ = some (.slice a n c)) (hi : i ≤ 1000) (hj : j ≤ 1000) (hn : n ≤ 1000) :
    Calls Tryz.prog 124 #[.int .i64 (i : Int), .int .i64 (j : Int), .pointer (some ⟨pb, 0, none⟩)] w fun e w' => e = .returned (.int .i64 ((i * n + j : Nat) : Int)) ∧ w = w' := by
  have hin : i * n ≤ 1000 * 1000 := Nat.mul_le_mul hi hn
  obtain ⟨m, hm⟩ : ∃ m : Int, (i : Int) * (n : Int) = m := ⟨_, rfl⟩
  have hm0 : 0 ≤ m ∧ m ≤ 1000000 := by
    have : ((i * n : Nat) : Int) = m := by rw [Int.natCast_mul]; exact hm
    omega
  have hw1 : IntKind.i64.wrap ((i : Int) * (n : Int)) = m := by rw [hm]; exact IntWalk.i64_in _ (by omega)
  have hw2 : IntKind.i64.wrap (m + (j : Int)) = m + (j : Int) := IntWalk.i64_in _ (by omega)
  have HE : Hid (((i * n + j : Nat) : Int) = m + (j : Int)) := Lib.hid (by rw [cast_pair, hm])
  obtain ⟨m0, m1⟩ := hm0
  have HM := Lib.hid hm
  clear hm
  go_enter Tryz.func124, Tryz.ntmps124
  go_wp2
  go_ret
  exact ⟨ret_int (by rw [HE.out]), rfl⟩

/-- one side of a node -/
def sideN (P : List Nd) (i : Nat) (left : Bool) : List Nat := if left then (P.getD i ([], [])).1 else (P.getD i ([], [])).2

/-- the node's slice on one side -/
theorem side_at {P : List Nd} {w : World} {lo hi : Nat} {ao : Option Addr} {c i : Nat} (left : Bool) (h : NodesZ w lo hi (.slice ao P.length c) (P.map upN)) (hu : Under P) (hs : ∀ nd ∈ P, nd.1.length ≤ 24 ∧ nd.2.length ≤ 24) (hi0 : i < P.length) :
    ∃ b off v1 v2 x y, ao = some ⟨b, off, none⟩ ∧ b < hi ∧ w.cell? ⟨b, off + i * 2, none⟩ = some v1 ∧ w.cell? ⟨b, off + i * 2 + 1, none⟩ = some v2 ∧ (if left then v1 else v2) = .slice x (sideN P i left).length y ∧ IntsZ w lo hi (.slice x (sideN P i left).length y) (upL (sideN P i left)) ∧ (sideN P i left).length ≤ 24 ∧ ∀ o ∈ sideN P i left, o < i := by
  obtain ⟨nd, hnd⟩ := lt_get hi0
  obtain ⟨b, off, cc, v1, v2, e, hbh, p1, p2, i1, i2⟩ := nodes_atP h hnd
  obtain ⟨q1, q2, q3⟩ := slice_inj e
  obtain ⟨a1, d1, rfl, _⟩ := ints_lenP i1
  obtain ⟨a2, d2, rfl, _⟩ := ints_lenP i2
  have h1 := hs nd (List.mem_of_getElem? hnd)
  have h2 := hu i nd hnd
  have h3 := getD_at hnd
  cases left with
  | true =>
    refine ⟨b, off, _, _, a1, d1, q1, hbh, p1, p2, ?_, ?_, ?_, ?_⟩
    · unfold sideN; rw [h3]; rfl
    · unfold sideN; rw [h3]; exact i1
    · unfold sideN; rw [h3]; exact h1.1
    · unfold sideN; rw [h3]; exact fun o ho => h2 o (Or.inl ho)
  | false =>
    refine ⟨b, off, _, _, a2, d2, q1, hbh, p1, p2, ?_, ?_, ?_, ?_⟩
    · unfold sideN; rw [h3]; rfl
    · unfold sideN; rw [h3]; exact i2
    · unfold sideN; rw [h3]; exact h1.2
    · unfold sideN; rw [h3]; exact fun o ho => h2 o (Or.inr ho)

set_option maxRecDepth 100000 in
set_option maxHeartbeats 4000000 in
theorem moves_calls (i j : Nat) (left : Bool) (A B : List Nd) (aa ab : Option Addr) (ca cb pa pp pb : Nat) (w : World) (lo hi lo' hi' : Nat) (hh : hi ≤ w.heap.size) (hh' : hi' ≤ w.heap.size) (ha : NodesZ w lo hi (.slice aa A.length ca) (A.map upN)) (hb : NodesZ w lo' hi' (.slice ab B.length cb) (B.map upN))
    (ka : w.cell? ⟨pa, 0, none⟩ = some (.slice aa A.length ca)) (kb : w.cell? ⟨pb, 0, none⟩ = some (.slice ab B.length cb)) (kp : w.cell? ⟨pp, 0, none⟩ = some (.func (.func 124) #[] #[.pointer (some ⟨pb, 0, none⟩)]))
    (hi0 : i < A.length) (hj : j < B.length) (hA : A.length ≤ 120) (hB : B.length ≤ 120) (uA : Under A) (uB : Under B) (sA : ∀ nd ∈ A, nd.1.length ≤ 24 ∧ nd.2.length ≤ 24) (sB : ∀ nd ∈ B, nd.1.length ≤ 24 ∧ nd.2.length ≤ 24) :
    Calls Tryz.prog 125 #[.int .i64 (i : Int), .int .i64 (j : Int), .bool left, .pointer (some ⟨pa, 0, none⟩), .pointer (some ⟨pp, 0, none⟩), .pointer (some ⟨pb, 0, none⟩)] w fun e w' => ∃ a c, e = .returned (.slice a (sumLP B.length i j (sideN A i left) (sideN B j left)).length c) ∧
      OwnI w' w.heap.size (.slice a (sumLP B.length i j (sideN A i left) (sideN B j left)).length c) (upL (sumLP B.length i j (sideN A i left) (sideN B j left))) ∧ Below w.heap.size w w' := by
  obtain ⟨iI, hiI, hzI0, hzI1, hzI2⟩ := info_parts infoIntA
  obtain ⟨b1, o1, v1, v2, x1, y1, rfl, _, p1, p2, e1, i1, n1, l1⟩ := side_at left ha uA sA hi0
  obtain ⟨b2, o2, u1, u2, x2, y2, rfl, _, r1, r2, e2, i2, n2, l2⟩ := side_at left hb uB sB hj
  obtain ⟨L1, hL1⟩ : ∃ L, sideN A i left = L := ⟨_, rfl⟩
  obtain ⟨L2, hL2⟩ : ∃ L, sideN B j left = L := ⟨_, rfl⟩
  rw [hL1] at e1 i1 n1 l1 ⊢
  rw [hL2] at e2 i2 n2 l2 ⊢
  have CO1 := Lib.hid fun (W : World) => optPick_calls v1 v2 (.slice x1 L1.length y1) left (Lib.hid e1) W
  have CO2 := Lib.hid fun (W : World) => optPick_calls u1 u2 (.slice x2 L2.length y2) left (Lib.hid e2) W
  have HL1 : Hid (∀ o ∈ L1, o < A.length) := Lib.hid (fun o ho => by have := l1 o ho; omega)
  have HL2 : Hid (∀ o ∈ L2, o < B.length) := Lib.hid (fun o ho => by have := l2 o ho; omega)
  have I1 := Lib.hid i1
  have I2 := Lib.hid i2
  have g0 : (0 : Int) ≤ i := by omega
  have g1 : (i : Int) < A.length := by omega
  have g2 : (0 : Int) ≤ j := by omega
  have g3 : (j : Int) < B.length := by omega
  clear e1 e2 i1 i2 l1 l2 hL1 hL2 ha hb uA uB sA sB
  go_enter Tryz.func125, Tryz.ntmps125
  go_wp2_with fail
  refine (CO1.out _).mono ?_
  rintro e wo ⟨rfl, hbo⟩
  have HBO := Lib.hid hbo
  have kb1 := kb
  have kp1 := kp
  have hsw := hbo.size
  clear hbo CO1
  go_wp2
  go_loopw [10, 22] (fun v t wr => ∃ (k m : Nat) (a : Option Addr) (c : Nat), k ≤ L1.length ∧ t = .int .i64 k ∧ v = .slice a m c ∧ Hid (m = ((L1.take k).map (fun o => o * B.length + j)).length) ∧ Hid (OwnI wr w.heap.size (.slice a m c) (upL ((L1.take k).map (fun o => o * B.length + j)))) ∧ Hid (RowKit.Below w.heap.size w wr) ∧ w.heap.size ≤ wr.heap.size) (fun _ i _ => L1.length - (intOf i).toNat)
  case atStart => exact ⟨0, 0, none, 0, Nat.zero_le _, rfl, rfl, Lib.hid (by simp), Lib.hid (OwnI.nil _ _), HBO, hsw⟩
  case round =>
    skip
    obtain ⟨k, m, a, c, hk, rfl, rfl, hm, ho, hbw, hsz⟩ := hrel
    by_cases hlt : k < L1.length
    · obtain ⟨x, hx⟩ := lt_get hlt
      have hxn : x < A.length := HL1.out x (List.mem_of_getElem? hx)
      have kbr := (bcell hbw.out _ _ (block_of_cell kb1)).trans kb1
      have kpr := (bcell hbw.out _ _ (block_of_cell kp1)).trans kp1
      obtain ⟨bx, ox, hxa, _, hxc⟩ := ints_atP ((I1.out).below hbw.out (by omega)) hx
      subst hxa
      have k0 : (0 : Int) ≤ k := by omega
      have k1 : (k : Int) < L1.length := by omega
      have hks : (upL ((L1.take k).map (fun o => o * B.length + j))).length ≤ 60 := by rw [upL_len]; simp only [List.length_append, List.length_map, List.length_take]; omega
      have CP := Lib.hid (place_calls x j B.length pb cb _ wr kbr (by omega) (by omega) (by omega))
      obtain ⟨PL, hPL⟩ : ∃ l, (L1.take k).map (fun o => o * B.length + j) = l := ⟨_, rfl⟩
      obtain ⟨z, hz⟩ : ∃ z, x * B.length + j = z := ⟨_, rfl⟩
      rw [hPL] at ho hks
      rw [hz] at CP
      have HPL := Lib.hid hPL
      have HZ := Lib.hid hz
      have HX := Lib.hid hx
      clear hx hPL hz
      go_wp2_with (first
        | (go_at_call 124; refine CP.out.mono ?_; rintro e w' ⟨rfl, rfl⟩)
        | (at_builtin; refine wpList_append_own_at _ rfl _ _ 65 rfl w.heap.size 3 iI (.int .i64 0) 1 8 Tryz.underlying65 hiI hzI0 hzI1 hzI2 rfl (by decide) _ _ _ rfl (World.ownsRow.alloc ho.out _) ⟨wr.heap.size, 0, none⟩ 1 1 [.int .i64 (z : Int)] rfl rfl ?e1 ?e2 ?e3 ?e4 ?e5 ?_))
      case e1 => exact World.news_of_block (heap_alloc_new _ _)
      case e2 => first | rfl | (intro u hu; simp at hu; subst hu; rfl)
      case e3 => unfold maxLen; omega
      case e4 => omega
      case e5 => simp; omega
      intro v6 w6 hown6 hgrow6 hnil6 hat6
      have hal : RowKit.Below wr.heap.size wr (wr.alloc (.cells #[.int .i64 (z : Int)] 3)) := (RowKit.Below.refl _ _).alloc (Nat.le_refl _) _
      have hol := ho.out.lt
      have O6 : OwnI w6 w.heap.size v6 (upL ((L1.take (k + 1)).map (fun o => o * B.length + j))) := by
        have e : (L1.take (k + 1)).map (fun o => o * B.length + j) = PL ++ [z] := by
          rw [take_snoc' HX.out, List.map_append, ← HPL.out, ← HZ.out]
          first | rfl | (rw [← List.append_assoc]; rfl)
        rw [e, upL_snoc]
        unfold OwnI
        rw [List.map_append, List.length_append]
        exact hown6
      obtain ⟨a6, c6, hv6⟩ := O6.form
      have hm6 : (upL ((L1.take (k + 1)).map (fun o => o * B.length + j))).length = m + 1 := by
        rw [upL_len]
        have := hm.out
        simp only [List.length_append, List.length_map, List.length_take] at this ⊢
        omega
      rw [hm6] at hv6
      subst hv6
      have HO6 := Lib.hid O6
      have hb6 : RowKit.Below w.heap.size wr w6 := (hal.mono hsz).grown hgrow6 (by simp; omega) (fun g e => (hol g e).1)
      have HB6 := Lib.hid (hbw.out.trans (hb6.mono (Nat.le_refl _)))
      have hsz6 : w.heap.size ≤ w6.heap.size := by have := hb6.size; omega
      have HM6 : Hid (m + 1 = ((L1.take (k + 1)).map (fun o => o * B.length + j)).length) := Lib.hid (by rw [← hm6, upL_len])
      clear hown6 hgrow6 hnil6 hat6 hal hol O6 hm6 hb6 ho hbw CP hm kbr kpr hks hxc
      go_wp2
      go_roundw
      case rel => exact ⟨k + 1, m + 1, a6, c6, by omega, by go_num, rfl, HM6, HO6, HB6, hsz6⟩
      case measure => first | (simp [intOf]; done) | (simp [intOf]; omega)
    · have hke : k = L1.length := by omega
      subst hke
      rw [List.take_length] at ho hm
      have pa1 := (bcell hbw.out _ _ (block_of_cell kb)).trans kb
      have r1' := (bcell hbw.out _ _ (block_of_cell r1)).trans r1
      have r2' := (bcell hbw.out _ _ (block_of_cell r2)).trans r2
      have HBW := hbw
      obtain ⟨W1, hW1⟩ : ∃ W, W = wr := ⟨_, rfl⟩
      subst hW1
      go_wp2_with fail
      refine (CO2.out _).mono ?_
      rintro e wo2 ⟨rfl, hbo2⟩
      have HO2 := Lib.hid (ho.out.below hbo2)
      have HB2 := Lib.hid (HBW.out.trans (hbo2.mono hsz))
      have kb2 := kb
      have kp2 := kp
      have hs2 := hbo2.size
      clear ho hbw hbo2 CO2 HBW
      go_wp2
      go_loopw [10, 41] (fun v t wr => ∃ (k m : Nat) (a : Option Addr) (c : Nat), k ≤ L2.length ∧ t = .int .i64 k ∧ v = .slice a m c ∧ Hid (m = (L1.map (fun o => o * B.length + j) ++ (L2.take k).map (fun o => i * B.length + o)).length) ∧ Hid (OwnI wr w.heap.size (.slice a m c) (upL (L1.map (fun o => o * B.length + j) ++ (L2.take k).map (fun o => i * B.length + o)))) ∧ Hid (RowKit.Below w.heap.size w wr) ∧ w.heap.size ≤ wr.heap.size) (fun _ i _ => L2.length - (intOf i).toNat)
      case atStart => exact ⟨0, m, a, c, Nat.zero_le _, rfl, rfl, Lib.hid (by rw [List.take_zero, List.map_nil, List.append_nil]; exact hm.out), Lib.hid (by rw [List.take_zero, List.map_nil, List.append_nil]; exact HO2.out), HB2, by omega⟩
      case round =>
        skip
        obtain ⟨k, m, a, c, hk, rfl, rfl, hm, ho, hbw, hsz⟩ := hrel
        by_cases hlt : k < L2.length
        · obtain ⟨x, hx⟩ := lt_get hlt
          have hxn : x < B.length := HL2.out x (List.mem_of_getElem? hx)
          have kbr := (bcell hbw.out _ _ (block_of_cell kb2)).trans kb2
          have kpr := (bcell hbw.out _ _ (block_of_cell kp2)).trans kp2
          obtain ⟨bx, ox, hxa, _, hxc⟩ := ints_atP ((I2.out).below hbw.out (by omega)) hx
          subst hxa
          have k0 : (0 : Int) ≤ k := by omega
          have k1 : (k : Int) < L2.length := by omega
          have hks : (upL (L1.map (fun o => o * B.length + j) ++ (L2.take k).map (fun o => i * B.length + o))).length ≤ 60 := by rw [upL_len]; simp only [List.length_append, List.length_map, List.length_take]; omega
          have CP := Lib.hid (place_calls i x B.length pb cb _ wr kbr (by omega) (by omega) (by omega))
          obtain ⟨PL, hPL⟩ : ∃ l, L1.map (fun o => o * B.length + j) ++ (L2.take k).map (fun o => i * B.length + o) = l := ⟨_, rfl⟩
          obtain ⟨z, hz⟩ : ∃ z, i * B.length + x = z := ⟨_, rfl⟩
          rw [hPL] at ho hks
          rw [hz] at CP
          have HPL := Lib.hid hPL
          have HZ := Lib.hid hz
          have HX := Lib.hid hx
          clear hx hPL hz
          go_wp2_with (first
            | (go_at_call 124; refine CP.out.mono ?_; rintro e w' ⟨rfl, rfl⟩)
            | (at_builtin; refine wpList_append_own_at _ rfl _ _ 65 rfl w.heap.size 3 iI (.int .i64 0) 1 8 Tryz.underlying65 hiI hzI0 hzI1 hzI2 rfl (by decide) _ _ _ rfl (World.ownsRow.alloc ho.out _) ⟨wr.heap.size, 0, none⟩ 1 1 [.int .i64 (z : Int)] rfl rfl ?e1 ?e2 ?e3 ?e4 ?e5 ?_))
          case e1 => exact World.news_of_block (heap_alloc_new _ _)
          case e2 => first | rfl | (intro u hu; simp at hu; subst hu; rfl)
          case e3 => unfold maxLen; omega
          case e4 => omega
          case e5 => simp; omega
          intro v6 w6 hown6 hgrow6 hnil6 hat6
          have hal : RowKit.Below wr.heap.size wr (wr.alloc (.cells #[.int .i64 (z : Int)] 3)) := (RowKit.Below.refl _ _).alloc (Nat.le_refl _) _
          have hol := ho.out.lt
          have O6 : OwnI w6 w.heap.size v6 (upL (L1.map (fun o => o * B.length + j) ++ (L2.take (k + 1)).map (fun o => i * B.length + o))) := by
            have e : L1.map (fun o => o * B.length + j) ++ (L2.take (k + 1)).map (fun o => i * B.length + o) = PL ++ [z] := by
              rw [take_snoc' HX.out, List.map_append, ← HPL.out, ← HZ.out]
              first | rfl | (rw [← List.append_assoc]; rfl)
            rw [e, upL_snoc]
            unfold OwnI
            rw [List.map_append, List.length_append]
            exact hown6
          obtain ⟨a6, c6, hv6⟩ := O6.form
          have hm6 : (upL (L1.map (fun o => o * B.length + j) ++ (L2.take (k + 1)).map (fun o => i * B.length + o))).length = m + 1 := by
            rw [upL_len]
            have := hm.out
            simp only [List.length_append, List.length_map, List.length_take] at this ⊢
            omega
          rw [hm6] at hv6
          subst hv6
          have HO6 := Lib.hid O6
          have hb6 : RowKit.Below w.heap.size wr w6 := (hal.mono hsz).grown hgrow6 (by simp; omega) (fun g e => (hol g e).1)
          have HB6 := Lib.hid (hbw.out.trans (hb6.mono (Nat.le_refl _)))
          have hsz6 : w.heap.size ≤ w6.heap.size := by have := hb6.size; omega
          have HM6 : Hid (m + 1 = (L1.map (fun o => o * B.length + j) ++ (L2.take (k + 1)).map (fun o => i * B.length + o)).length) := Lib.hid (by rw [← hm6, upL_len])
          clear hown6 hgrow6 hnil6 hat6 hal hol O6 hm6 hb6 ho hbw CP hm kbr kpr hks hxc
          go_wp2
          go_roundw
          case rel => exact ⟨k + 1, m + 1, a6, c6, by omega, by go_num, rfl, HM6, HO6, HB6, hsz6⟩
          case measure => first | (simp [intOf]; done) | (simp [intOf]; omega)
        · have hke : k = L2.length := by omega
          subst hke
          rw [List.take_length] at ho hm
          go_wp2
          go_ret
          have e := hm.out
          subst e
          exact ⟨a, c, rfl, ho.out, hbw.out⟩
end

section
open Go.RowKit
set_option linter.unusedVariables false
set_option linter.unusedSimpArgs false

set_option maxRecDepth 100000 in
set_option maxHeartbeats 4000000 in
theorem sumNodes_calls (A B : List Nd) (aa ab : Option Addr) (ca cb : Nat) (w : World) (lo hi lo' hi' : Nat) (hh : hi ≤ w.heap.size) (hh' : hi' ≤ w.heap.size) (ha : NodesZ w lo hi (.slice aa A.length ca) (A.map upN)) (hb : NodesZ w lo' hi' (.slice ab B.length cb) (B.map upN))
    (hA : A.length ≤ 120) (hB : B.length ≤ 120) (uA : Under A) (uB : Under B) (sA : ∀ nd ∈ A, nd.1.length ≤ 24 ∧ nd.2.length ≤ 24) (sB : ∀ nd ∈ B, nd.1.length ≤ 24 ∧ nd.2.length ≤ 24) :
    Calls Tryz.prog 68 #[.slice aa A.length ca, .slice ab B.length cb] w fun e w' => ∃ g vs, e = .returned (.slice (some ⟨g, 0, none⟩) (A.length * B.length) (A.length * B.length)) ∧ RowZ w' w.heap.size g (A.length * B.length) vs ((sumN A B).map upN) (A.length * B.length) ∧ Below w.heap.size w w' := by
  obtain ⟨iN, hiN, hzN0, hzN1, hzN2⟩ := info_parts infoNodeA
  have hAB : A.length * B.length ≤ 120 * 120 := Nat.mul_le_mul hA hB
  have hmul := mul_cast (m := A.length) (n := B.length) (by omega)
  have CM := Lib.hid fun (i j : Nat) (left : Bool) (pa pp pb : Nat) (W : World) (hW : Below w.heap.size w W) ka kb kp hi0 hj => moves_calls i j left A B aa ab ca cb pa pp pb W lo hi lo' hi' (Nat.le_trans hh hW.size) (Nat.le_trans hh' hW.size) (ha.below hW hh) (hb.below hW hh') ka kb kp hi0 hj hA hB uA uB sA sB
  have HSN := Lib.hid fun (i j : Nat) (hi : i < A.length) (hj : j < B.length) => sumN_at hi hj
  clear ha hb uA uB sA sB
  go_enter Tryz.func68, Tryz.ntmps68
  go_wp2_with (at_make; refine wpList_make_full _ rfl _ _ 24 rfl w.heap.size 67 iN (.agg #[.slice none 0 0, .slice none 0 0]) 2 Tryz.underlying24 hiN hzN0 hzN1 _ _ _ _ (A.length * B.length) rfl rfl ?z1 ?z2 ?z3 ?z4 ?z5 ?_; (go_loud (first | rfl | (simp; done))); (go_loud (first | rfl | (simp; done))); (go_loud (clear hmul; rw [hzN2]; omega)); (go_loud (clear hmul; unfold maxLen; omega)); (go_loud (clear hmul; first | (simp; done) | (simp; omega))); intro w5 hown hgr; clear hmul; have hz3 : (((w.alloc (.cells #[.slice aa A.length ca] 24)).alloc (.cells #[.slice ab B.length cb] 24)).alloc (.cells #[.func (.func 124) #[] #[.pointer (some ⟨w.heap.size + 1, 0, none⟩)]] 148)).heap.size = w.heap.size + 3 := (by go_loud (simp)); have hb5 : Below (w.heap.size + 3) (((w.alloc (.cells #[.slice aa A.length ca] 24)).alloc (.cells #[.slice ab B.length cb] 24)).alloc (.cells #[.func (.func 124) #[] #[.pointer (some ⟨w.heap.size + 1, 0, none⟩)]] 148)) w5 := (by go_loud (rw [← hz3]; exact (Below.refl _ _).grown hgr (Nat.le_refl _) (fun k hk => by cases hk))); have kf : w5.cell? ⟨w.heap.size, 0, none⟩ = some (.slice aa A.length ca) := (bcell hb5 _ _ (by omega)).trans (by go_loud (go_simp)); have kg : w5.cell? ⟨w.heap.size + 1, 0, none⟩ = some (.slice ab B.length cb) := (bcell hb5 _ _ (by omega)).trans (by go_loud (go_simp)); have kp : w5.cell? ⟨w.heap.size + 1 + 1, 0, none⟩ = some (.func (.func 124) #[] #[.pointer (some ⟨w.heap.size + 1, 0, none⟩)]) := (bcell hb5 _ _ (by omega)).trans (by go_loud (go_simp)))
  rw [hz3] at hown
  have HR := Lib.hid (RowZ.made (F := (sumN A B).map upN) hown)
  have HB5 : Hid (Below w.heap.size w w5) := Lib.hid ((((((Below.refl _ _).alloc (Nat.le_refl _) _).alloc (by simp) _).alloc (by simp; omega) _).trans (hb5.mono (by omega))))
  have hgw := (World.ownsRow.lt hown _ rfl).2
  clear hown hgr hb5 hz3
  go_wp2
  go_loopw [20] (fun t wr => ∃ (i : Nat) (vs : List (Value × Value)), i ≤ A.length ∧ t = .int .i64 i ∧ Hid (RowZ wr w.heap.size (w.heap.size + 3) (A.length * B.length) vs ((sumN A B).map upN) (i * B.length)) ∧ Hid (Below w.heap.size w wr) ∧ Hid (wr.cell? ⟨w.heap.size, 0, none⟩ = some (.slice aa A.length ca) ∧ wr.cell? ⟨w.heap.size + 1, 0, none⟩ = some (.slice ab B.length cb) ∧ wr.cell? ⟨w.heap.size + 1 + 1, 0, none⟩ = some (.func (.func 124) #[] #[.pointer (some ⟨w.heap.size + 1, 0, none⟩)]))) (fun t _ => A.length - (intOf t).toNat)
  case atStart => exact ⟨0, _, Nat.zero_le _, rfl, by rw [Nat.zero_mul]; exact HR, HB5, Lib.hid ⟨kf, kg, kp⟩⟩
  case round =>
    obtain ⟨i, vs, hi0, rfl, hr, hbw, hc⟩ := hrel
    clear HR HB5 kf kg kp
    obtain ⟨kf, kg, kp⟩ := hc.out
    by_cases hlt : i < A.length
    · have i0 : (0 : Int) ≤ i := by omega
      have i1 : (i : Int) < A.length := by omega
      obtain ⟨W0, hW0⟩ : ∃ W, W = wr := ⟨_, rfl⟩
      subst hW0
      go_wp2
      go_loopw [25] (fun t wr => ∃ (j : Nat) (vs : List (Value × Value)), j ≤ B.length ∧ t = .int .i64 j ∧ Hid (RowZ wr w.heap.size (w.heap.size + 3) (A.length * B.length) vs ((sumN A B).map upN) (i * B.length + j)) ∧ Hid (RowKit.Below w.heap.size w wr) ∧ Hid (wr.cell? ⟨w.heap.size, 0, none⟩ = some (.slice aa A.length ca) ∧ wr.cell? ⟨w.heap.size + 1, 0, none⟩ = some (.slice ab B.length cb) ∧ wr.cell? ⟨w.heap.size + 1 + 1, 0, none⟩ = some (.func (.func 124) #[] #[.pointer (some ⟨w.heap.size + 1, 0, none⟩)]))) (fun t _ => B.length - (intOf t).toNat)
      case atStart => exact ⟨0, vs, Nat.zero_le _, rfl, hr, hbw, hc⟩
      case round =>
        clear hr hbw hc kf kg kp
        obtain ⟨j, vs, hj0, rfl, hr, hbw, hc⟩ := hrel
        obtain ⟨kf, kg, kp⟩ := hc.out
        by_cases hlt2 : j < B.length
        · have j0 : (0 : Int) ≤ j := by omega
          have j1 : (j : Int) < B.length := by omega
          have hpl := pair_lt hlt hlt2
          have hnd := HSN.out i j hlt hlt2
          have CP := Lib.hid (place_calls i j B.length (w.heap.size + 1) cb ab wr kg (by omega) (by omega) (by omega))
          have CL := Lib.hid (CM.out i j true w.heap.size (w.heap.size + 1 + 1) (w.heap.size + 1) wr hbw.out kf kg kp hlt hlt2)
          have CR := Lib.hid fun (W : World) (hW : RowKit.Below wr.heap.size wr W) => CM.out i j false w.heap.size (w.heap.size + 1 + 1) (w.heap.size + 1) W (hbw.out.trans (hW.mono hbw.out.size)) ((bcell hW _ _ (block_of_cell kf)).trans kf) ((bcell hW _ _ (block_of_cell kg)).trans kg) ((bcell hW _ _ (block_of_cell kp)).trans kp) hlt hlt2
          obtain ⟨q, hq⟩ : ∃ q, i * B.length + j = q := ⟨_, rfl⟩
          rw [hq] at CP hpl hnd hr
          have HQ := Lib.hid hq
          have HND := Lib.hid hnd
          obtain ⟨LL, hLL⟩ : ∃ l, sumLP B.length i j (sideN A i true) (sideN B j true) = l := ⟨_, rfl⟩
          obtain ⟨LR, hLR⟩ : ∃ l, sumLP B.length i j (sideN A i false) (sideN B j false) = l := ⟨_, rfl⟩
          rw [hLL] at CL
          rw [hLR] at CR
          have HSA : Hid (sumAt A B i j = (LL, LR)) := Lib.hid (by rw [← hLL, ← hLR]; rfl)
          clear hq hnd hLL hLR
          have hgw := (World.ownsRow.lt hr.out.row (w.heap.size + 3) rfl).2
          have hsw := hbw.out.size
          go_wp2_with fail
          refine CP.out.mono ?_
          rintro e w' ⟨rfl, rfl⟩
          go_wp2_with fail
          refine CL.out.mono ?_
          rintro e wl ⟨al, cl, rfl, hol, hbl⟩
          have C3 := Lib.hid (CR.out wl hbl)
          have HOL := Lib.hid hol
          have HBL := Lib.hid hbl
          clear hol hbl CL CR CP
          go_wp2_with fail
          refine C3.out.mono ?_
          rintro e w2 ⟨ar, cr, rfl, hor, hbr⟩
          have hb2 : RowKit.Below wr.heap.size wr w2 := HBL.out.trans (hbr.mono HBL.out.size)
          have hs2 := hb2.size
          have hsl := HBL.out.size
          have R2 := hr.out.below hb2
          have X1 : IntsX w2 (w.heap.size + 3) (.slice al LL.length cl) (upL LL) := ⟨wr.heap.size, w2.heap.size, Nat.le_refl _, Or.inl hgw, (HOL.out.below hbr).ints⟩
          have X2 : IntsX w2 (w.heap.size + 3) (.slice ar LR.length cr) (upL LR) := ⟨wl.heap.size, w2.heap.size, Nat.le_refl _, Or.inl (by omega), hor.ints⟩
          obtain ⟨po, hpo, m1, m2, mf1, mf2⟩ := R2.cells hpl
          have ho : Only w2 ((w2.setCell ⟨w.heap.size + 3, q * 2, none⟩ (.slice al LL.length cl)).setCell ⟨w.heap.size + 3, q * 2 + 1, none⟩ (.slice ar LR.length cr)) (fun b => b = w.heap.size + 3) := (Only.of_set (F := fun b => b = w.heap.size + 3) (p := ⟨w.heap.size + 3, q * 2, none⟩) _ rfl).trans (Only.of_set (F := fun b => b = w.heap.size + 3) (p := ⟨w.heap.size + 3, q * 2 + 1, none⟩) _ rfl) (fun _ _ h => h)
          have R3 := Lib.hid (R2.set (k := q) (nd := upN (LL, LR)) (p := (.slice al LL.length cl, .slice ar LR.length cr)) hpl (by rw [List.getElem?_map, HND.out, HSA.out]; rfl) X1 X2)
          have B3 := Lib.hid ((hbw.out.trans (hb2.mono hsw)).trans (ho.below (Nat.le_trans hsw hs2) (fun b e => by omega)))
          have kfb := (bcell hb2 _ _ (block_of_cell kf)).trans kf
          have kgb := (bcell hb2 _ _ (block_of_cell kg)).trans kg
          have kpb := (bcell hb2 _ _ (block_of_cell kp)).trans kp
          have hot : ∀ b, b ≠ w.heap.size + 3 → ((w2.setCell ⟨w.heap.size + 3, q * 2, none⟩ (.slice al LL.length cl)).setCell ⟨w.heap.size + 3, q * 2 + 1, none⟩ (.slice ar LR.length cr)).cell? ⟨b, 0, none⟩ = w2.cell? ⟨b, 0, none⟩ := fun b hb => (World.cell?_setCell_other _ _ _ _ (fun e => by injection e with e _ _; exact hb e.symm)).trans (World.cell?_setCell_other _ _ _ _ (fun e => by injection e with e _ _; exact hb e.symm))
          have K3 := Lib.hid (And.intro ((hot w.heap.size (by omega)).trans kfb) (And.intro ((hot (w.heap.size + 1) (by omega)).trans kgb) ((hot (w.heap.size + 1 + 1) (by omega)).trans kpb)))
          have q0 : (0 : Int) ≤ q := by omega
          have q1 : (q : Int) < (A.length : Int) * (B.length : Int) := by rw [← Int.natCast_mul]; omega
          have HQ2 : Hid (i * B.length + (j + 1) = q + 1) := Lib.hid (by rw [← HQ.out]; rfl)
          clear hor hbr hb2 R2 X1 X2 ho hot kfb kgb kpb HOL HBL C3 hr hbw hc hpo
          go_wp2
          go_roundw
          case rel => exact ⟨j + 1, _, by omega, by go_num, by rw [HQ2.out]; exact R3, B3, K3⟩
          case measure => first | (simp [intOf]; done) | (simp [intOf]; omega)
        · have hje : j = B.length := by omega
          subst hje
          have HE : Hid ((i + 1) * B.length = i * B.length + B.length) := Lib.hid (Nat.succ_mul _ _)
          clear CM HSN
          go_wp2
          go_roundw
          case rel => exact ⟨i + 1, vs, by omega, by go_num, by rw [HE.out]; exact hr, hbw, hc⟩
          case measure => first | (simp [intOf]; done) | (simp [intOf]; omega)
    · have hie : i = A.length := by omega
      subst hie
      clear CM HSN
      go_wp2
      go_ret
      exact ⟨_, vs, rfl, hr.out, hbw.out⟩
end

section
open Go.RowKit
set_option linter.unusedVariables false
set_option linter.unusedSimpArgs false

theorem sum_small {A B : List Nd} (ha : ∀ nd ∈ A, nd.1.length ≤ 24 ∧ nd.2.length ≤ 24) (hb : ∀ nd ∈ B, nd.1.length ≤ 24 ∧ nd.2.length ≤ 24) : ∀ nd ∈ sumN A B, nd.1.length ≤ 1000 ∧ nd.2.length ≤ 1000 := fun nd hnd => by
  have := sumN_small ha hb nd hnd
  omega

set_option maxRecDepth 100000 in
set_option maxHeartbeats 2000000 in
theorem sumI_calls (va vb : Value) (f g h : List Nz) (ok : Bool) (hok : Hid (sumOk f g = ok)) (hv : Hid (sumV f g = h)) (w : World) (lo hi lo' hi' : Nat) (hh : hi ≤ w.heap.size) (hh' : hi' ≤ w.heap.size) (hva : NodesZ w lo hi va f) (hvb : NodesZ w lo' hi' vb g) :
    Calls Tryz.prog 24 #[.agg #[va], .agg #[vb]] w fun e w' => ∃ a c vs, e = .returned (.tuple #[.agg #[.slice a h.length c], .bool ok]) ∧ OwnF w' w.heap.size (.slice a h.length c) vs h ∧ Below w.heap.size w w' := by
  have HB0 := Lib.hid fun o o' o'' => show Below w.heap.size w (((w.alloc o).alloc o').alloc o'') from (((Below.refl _ _).alloc (Nat.le_refl _) _).alloc (by simp) _).alloc (by simp; omega) _
  obtain ⟨r, hr⟩ : ∃ r, pairB f g = r := ⟨_, rfl⟩
  have CG := Lib.hid fun (W : World) (hW : Below w.heap.size w W) => goodPair_calls va vb f g r (Lib.hid hr) W lo hi lo' hi' (Nat.le_trans hh hW.size) (Nat.le_trans hh' hW.size) (hva.below hW hh) (hvb.below hW hh')
  have HVA := Lib.hid fun (W : World) (hW : Below w.heap.size w W) => hva.below hW hh
  have HVB := Lib.hid fun (W : World) (hW : Below w.heap.size w W) => hvb.below hW hh'
  obtain ⟨aa, ca, rfl⟩ : ∃ ao c, va = .slice ao f.length c := by obtain ⟨ao, c, e, _⟩ := hva; exact ⟨ao, c, e⟩
  obtain ⟨ab, cb, rfl⟩ : ∃ ao c, vb = .slice ao g.length c := by obtain ⟨ao, c, e, _⟩ := hvb; exact ⟨ao, c, e⟩
  clear hva hvb
  go_enter Tryz.func24, Tryz.ntmps24
  go_wp2_with fail
  refine (CG.out _ (HB0.out _ _ _)).mono ?_
  rintro e w4 ⟨rfl, hb4⟩
  have k1 : w4.cell? ⟨w.heap.size, 0, none⟩ = some (.slice aa f.length ca) := (bcell hb4 _ _ (by simp; omega)).trans (by go_simp)
  have k2 : w4.cell? ⟨w.heap.size + 1, 0, none⟩ = some (.slice ab g.length cb) := (bcell hb4 _ _ (by first | (simp; done) | (simp; omega))).trans (by go_simp)
  obtain ⟨d0, z0⟩ : BoxAt w4 (w.heap.size + 1 + 1) (.slice none 0 0) := BoxAt.below ⟨by go_simp, by go_simp⟩ hb4
  have HB4 := Lib.hid (Below.trans (HB0.out _ _ _) (hb4.mono (by simp; omega)))
  have hlt := block_of_cell d0
  clear hb4 CG
  cases r with
  | false =>
    obtain rfl : h = [] := by rw [← hv.out, sumV_no hr]
    obtain rfl : ok = false := by rw [← hok.out, sumOk_no hr]
    have B4 := Lib.hid (HB4.out.setCell (p := ⟨w.heap.size + 1 + 1, 0, none⟩) (by show w.heap.size ≤ w.heap.size + 1 + 1; omega) (.slice none 0 0))
    have hcr := World.cell?_setCell_same w4 ⟨w.heap.size + 1 + 1, 0, none⟩ (.slice none 0 0) d0
    go_wp2_with fail
    exact bodyPost_ret (v := .tuple #[.agg #[.slice none 0 0], .bool false]) (by simp [results, Tryz.results24, go_sem, hcr]) rfl ⟨none, 0, [], rfl, OwnF.nil _ _, B4.out⟩
  | true =>
    obtain ⟨hp1, hp2, hp3⟩ := (pairB_iff f g).1 hr
    obtain ⟨eA, uA, sA, pA, lA, mA⟩ := good_parts hp1
    obtain ⟨eB, uB, sB, pB, lB, mB⟩ := good_parts hp2
    have nA : (f.map downN).length = f.length := by simp
    have nB : (g.map downN).length = g.length := by simp
    have CN := Lib.hid fun (W : World) (hW : Below w.heap.size w W) => sumNodes_calls (f.map downN) (g.map downN) aa ab ca cb W lo hi lo' hi' (Nat.le_trans hh hW.size) (Nat.le_trans hh' hW.size) (by rw [nA, eA]; exact HVA.out W hW) (by rw [nB, eB]; exact HVB.out W hW) (by omega) (by omega) uA uB mA mB
    have hpos : 0 < f.length * g.length := Nat.mul_pos pA pB
    have hlen : (sumN (f.map downN) (g.map downN)).length = f.length * g.length := by rw [sumN_len, nA, nB]
    have CF := Lib.hid fun (W : World) (v : Value) (hz : NodesZ W 0 W.heap.size v ((sumN (f.map downN) (g.map downN)).map upN)) => formOf_calls v (sumN (f.map downN) (g.map downN)) h ok W 0 W.heap.size (Nat.le_refl _) hz (sumN_under uA uB) (by rw [hlen]; exact hpos) (sumN_reach uA uB sA sB) (by rw [hlen]; omega) (sum_small mA mB) (Lib.hid (by rw [← sumOk_yes hr]; exact hok.out)) (Lib.hid (by rw [← sumV_yes hr]; exact hv.out))
    rw [nA, nB] at CN
    have HLN := Lib.hid hlen
    have HK : Hid (w4.cell? ⟨w.heap.size + 1 + 1, 0, none⟩ = some (.slice none 0 0) ∧ w4.frozen? ⟨w.heap.size + 1 + 1, 0, none⟩ = false) := Lib.hid ⟨d0, z0⟩
    clear eA uA sA eB uB sB mA mB hlen hok hv hr hp1 hp2 hpos nA nB
    go_wp2_with fail
    refine (CN.out _ HB4.out).mono ?_
    rintro e w5 ⟨gg, vs, rfl, hrow, hb5⟩
    have C2 := Lib.hid (CF.out w5 _ (hrow.nodesZ (by rw [List.length_map, HLN.out])))
    have HB5 := Lib.hid (HB4.out.trans (hb5.mono HB4.out.size))
    have hx5 : BoxAt w5 (w.heap.size + 1 + 1) (.slice none 0 0) := BoxAt.below ⟨d0, z0⟩ hb5
    have hs5 := HB5.out.size
    have hl5 := hb5.size
    clear hrow hb5 CN CF
    go_wp2_with fail
    refine C2.out.mono ?_
    rintro e w6 ⟨a, c, vs6, rfl, ho6, hb6⟩
    obtain ⟨d6, z6⟩ : BoxAt w6 (w.heap.size + 1 + 1) (.slice none 0 0) := BoxAt.below hx5 hb6
    have HO : Hid (OwnF (w6.setCell ⟨w.heap.size + 1 + 1, 0, none⟩ (.slice a h.length c)) w.heap.size (.slice a h.length c) vs6 h) := Lib.hid ((ho6.setCell (by show w.heap.size + 1 + 1 < w5.heap.size; omega)).mono hs5)
    have HB6 : Hid (Below w.heap.size w (w6.setCell ⟨w.heap.size + 1 + 1, 0, none⟩ (.slice a h.length c))) := Lib.hid ((HB5.out.trans (hb6.mono hs5)).setCell (by show w.heap.size ≤ w.heap.size + 1 + 1; omega) _)
    have hcr := World.cell?_setCell_same w6 ⟨w.heap.size + 1 + 1, 0, none⟩ (.slice a h.length c) d6
    clear ho6 hb6 hx5 C2
    go_wp2_with fail
    exact bodyPost_ret (v := .tuple #[.agg #[.slice a h.length c], .bool ok]) (by simp [results, Tryz.results24, go_sem, hcr]) rfl ⟨a, c, vs6, rfl, HO.out, HB6.out⟩
end
end

section
open Go.RowKit
set_option linter.unusedVariables false
set_option linter.unusedSimpArgs false

set_option maxRecDepth 100000 in
set_option maxHeartbeats 2000000 in
theorem minusI_calls (va vb : Value) (f g h : List Nz) (ok : Bool) (hok : Hid (mnOk f g = ok)) (hv : Hid (mnV f g = h)) (w : World) (lo hi lo' hi' : Nat) (hh : hi ≤ w.heap.size) (hh' : hi' ≤ w.heap.size) (hva : NodesZ w lo hi va f) (hvb : NodesZ w lo' hi' vb g) :
    Calls Tryz.prog 14 #[.agg #[va], .agg #[vb]] w fun e w' => ∃ a c vs, e = .returned (.tuple #[.agg #[.slice a h.length c], .bool ok]) ∧ OwnF w' w.heap.size (.slice a h.length c) vs h ∧ Below w.heap.size w w' := by
  have HB0 := Lib.hid fun o o' o'' => show Below w.heap.size w (((w.alloc o).alloc o').alloc o'') from (((Below.refl _ _).alloc (Nat.le_refl _) _).alloc (by simp) _).alloc (by simp; omega) _
  obtain ⟨r, hr⟩ : ∃ r, goodB g = r := ⟨_, rfl⟩
  obtain ⟨n, hn⟩ : ∃ n, negV g = n := ⟨_, rfl⟩
  have CN := Lib.hid fun (W : World) (hW : Below w.heap.size w W) => negI_calls vb g n r (Lib.hid hr) (Lib.hid hn) W lo' hi' (Nat.le_trans hh' hW.size) (hvb.below hW hh')
  have HVA := Lib.hid fun (W : World) (hW : Below w.heap.size w W) => hva.below hW hh
  obtain ⟨aa, ca, rfl⟩ : ∃ ao c, va = .slice ao f.length c := by obtain ⟨ao, c, e, _⟩ := hva; exact ⟨ao, c, e⟩
  obtain ⟨ab, cb, rfl⟩ : ∃ ao c, vb = .slice ao g.length c := by obtain ⟨ao, c, e, _⟩ := hvb; exact ⟨ao, c, e⟩
  clear hva hvb
  go_enter Tryz.func14, Tryz.ntmps14
  go_wp2_with fail
  refine (CN.out _ (HB0.out _ _ _)).mono ?_
  rintro e w4 ⟨an, cn, vsn, rfl, hon, hb4⟩
  have k1 : w4.cell? ⟨w.heap.size, 0, none⟩ = some (.slice aa f.length ca) := (bcell hb4 _ _ (by simp; omega)).trans (by go_simp)
  obtain ⟨d0, z0⟩ : BoxAt w4 (w.heap.size + 1 + 1) (.slice none 0 0) := BoxAt.below ⟨by go_simp, by go_simp⟩ hb4
  have HB4 := Lib.hid (Below.trans (HB0.out _ _ _) (hb4.mono (by simp; omega)))
  have hlt := block_of_cell d0
  have hl1 := block_of_cell k1
  have HN4 := Lib.hid hon.nodesZ
  have hs4 : w.heap.size ≤ w4.heap.size := HB4.out.size
  have HB5 : Hid (Below w.heap.size w (w4.alloc (.cells #[.slice an n.length cn] 26))) := Lib.hid (HB4.out.alloc hs4 _)
  have hba : Below w4.heap.size w4 (w4.alloc (.cells #[.slice an n.length cn] 26)) := (Below.refl _ _).alloc (Nat.le_refl _) _
  obtain ⟨d1, z1⟩ := BoxAt.below ⟨d0, z0⟩ hba
  have k1 := (bcell hba _ _ hl1).trans k1
  have HNA := Lib.hid (HN4.out.below hba (Nat.le_refl _))
  have hsa : (w4.alloc (.cells #[.slice an n.length cn] 26)).heap.size = w4.heap.size + 1 := by simp
  clear hb4 CN hon HN4 d0 z0 hlt
  cases r with
  | false =>
    obtain rfl : h = [] := by rw [← hv.out, mnV_no hr]
    obtain rfl : ok = false := by rw [← hok.out, mnOk_no hr]
    have B4 := Lib.hid (HB5.out.setCell (p := ⟨w.heap.size + 1 + 1, 0, none⟩) (by show w.heap.size ≤ w.heap.size + 1 + 1; omega) (.slice none 0 0))
    have hcr := World.cell?_setCell_same _ ⟨w.heap.size + 1 + 1, 0, none⟩ (.slice none 0 0) d1
    clear hba
    go_wp2_with fail
    exact bodyPost_ret (v := .tuple #[.agg #[.slice none 0 0], .bool false]) (by simp [results, Tryz.results14, go_sem, hcr]) rfl ⟨none, 0, [], rfl, OwnF.nil _ _, B4.out⟩
  | true =>
    have HOK : Hid (sumOk f n = ok) := Lib.hid (by rw [← hn, ← hok.out, mnOk_good hr])
    have HV : Hid (sumV f n = h) := Lib.hid (by rw [← hn, ← hv.out, mnV_good hr])
    have CS := Lib.hid (sumI_calls (.slice aa f.length ca) (.slice an n.length cn) f n h ok HOK HV _ lo hi _ _ (Nat.le_trans hh HB5.out.size) (by rw [hsa]; omega) (HVA.out _ HB5.out) HNA.out)
    have hx1 : BoxAt (w4.alloc (.cells #[.slice an n.length cn] 26)) (w.heap.size + 1 + 1) (.slice none 0 0) := ⟨d1, z1⟩
    have HS5 := Lib.hid HB5.out.size
    have hlx := block_of_cell d1
    clear hba hok hv hr hn
    go_wp2_with fail
    refine CS.out.mono ?_
    rintro e w6 ⟨a, c, vs6, rfl, ho6, hb6⟩
    obtain ⟨d6, z6⟩ : BoxAt w6 (w.heap.size + 1 + 1) (.slice none 0 0) := BoxAt.below hx1 hb6
    have HO : Hid (OwnF (w6.setCell ⟨w.heap.size + 1 + 1, 0, none⟩ (.slice a h.length c)) w.heap.size (.slice a h.length c) vs6 h) := Lib.hid ((ho6.setCell hlx).mono HS5.out)
    have HB6 : Hid (RowKit.Below w.heap.size w (w6.setCell ⟨w.heap.size + 1 + 1, 0, none⟩ (.slice a h.length c))) := Lib.hid ((HB5.out.trans (hb6.mono HS5.out)).setCell (by show w.heap.size ≤ w.heap.size + 1 + 1; omega) _)
    have hcr := World.cell?_setCell_same w6 ⟨w.heap.size + 1 + 1, 0, none⟩ (.slice a h.length c) d6
    clear ho6 hb6 hx1 CS
    go_wp2_with fail
    exact bodyPost_ret (v := .tuple #[.agg #[.slice a h.length c], .bool ok]) (by simp [results, Tryz.results14, go_sem, hcr]) rfl ⟨a, c, vs6, rfl, HO.out, HB6.out⟩
end

end Go.Proofs.YtabfdaofikccmaaGreat
