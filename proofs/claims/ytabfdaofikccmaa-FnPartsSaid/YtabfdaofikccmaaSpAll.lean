/- Are all forms good, and at most so many? -/
import Derived.Test.YtabfdaofikccmaaFmGoodI
import Derived.Test.YtabfdaofikccmaaSmM
import Derived.Test.YtabfdaofikccmaaInAll
import Derived.Laws.EntriesVeiled
import Derived.Test.YtabfdaofikccmaaFmToOwn
import Derived.Test.YtabfdaofikccmaaFmPartL
import Derived.Test.YtabfdaofikccmaaDrAll
namespace Go.Proofs.Ytabfdaofikccmaa
section
/-- are all forms good, and at most so many? -/
def alB (m : Nat) (Fs : List (List Nz)) : Bool := decide (Fs.length ≤ m) && Fs.all goodB
theorem alB_parts {m : Nat} {Fs : List (List Nz)} (h : alB m Fs = true) : Fs.length ≤ m ∧ ∀ f ∈ Fs, goodB f = true := by
  unfold alB at h
  rw [Bool.and_eq_true, decide_eq_true_eq, List.all_eq_true] at h
  exact h
end

section
set_option linter.unusedVariables false
set_option linter.unusedSimpArgs false
def zeroZ : List Nz := [([], [])]
/-- one game more -/
def soStep (s : List Nz × Bool) (f : List Nz) : List Nz × Bool := if s.2 && sumOk s.1 f then (sumV s.1 f, true) else ([], false)
def soF (Fs : List (List Nz)) : List Nz × Bool := Fs.foldl soStep (zeroZ, true)
theorem soF_snoc (Fs : List (List Nz)) (f : List Nz) : soF (Fs ++ [f]) = soStep (soF Fs) f := by simp [soF, List.foldl_append]
theorem soF_take {Fs : List (List Nz)} {k : Nat} {f : List Nz} (h : Fs[k]? = some f) : soF (Fs.take (k + 1)) = soStep (soF (Fs.take k)) f := by
  rw [List.take_add_one, h]
  exact soF_snoc _ _
theorem soF_yes {Fs : List (List Nz)} {k : Nat} {f : List Nz} (h : Fs[k]? = some f) (h2 : (soF (Fs.take k)).2 = true) (h3 : sumOk (soF (Fs.take k)).1 f = true) : soF (Fs.take (k + 1)) = (sumV (soF (Fs.take k)).1 f, true) := by
  rw [soF_take h]
  unfold soStep
  rw [h2, h3]
  rfl
theorem soF_stop (l : List (List Nz)) : (l.foldl soStep ([], false)).2 = false := by
  induction l with
  | nil => rfl
  | cons f l ih =>
    rw [List.foldl_cons]
    have : soStep ([], false) f = ([], false) := rfl
    rw [this]
    exact ih
theorem soF_no {Fs : List (List Nz)} {k : Nat} {f : List Nz} (h : Fs[k]? = some f) (h3 : sumOk (soF (Fs.take k)).1 f = false) : (soF Fs).2 = false := by
  have hk := get_lt h
  have e : Fs = Fs.take (k + 1) ++ Fs.drop (k + 1) := (List.take_append_drop _ _).symm
  have e2 : soF Fs = (Fs.drop (k + 1)).foldl soStep (soF (Fs.take (k + 1))) := by
    conv => lhs; rw [e]
    unfold soF
    rw [List.foldl_append]
  have e3 : soF (Fs.take (k + 1)) = ([], false) := by
    rw [soF_take h]
    unfold soStep
    rw [h3, Bool.and_false]
    rfl
  rw [e2, e3]
  exact soF_stop _
theorem soF_good (Fs : List (List Nz)) (h : (soF Fs).2 = true) : ∀ f ∈ Fs, goodB f = true := by
  intro f hf
  obtain ⟨k, hk⟩ := List.mem_iff_getElem?.1 hf
  cases hs : sumOk (soF (Fs.take k)).1 f with
  | false => rw [soF_no hk hs] at h; cases h
  | true =>
    unfold sumOk at hs
    rw [Bool.and_eq_true] at hs
    exact ((pairB_iff _ _).1 hs.1).2.1
/-- is there a sum? -/
def soOk (Fs : List (List Nz)) : Bool := decide (Fs.length ≤ 12) && (soF Fs).2
/-- the sum, or nothing -/
def soV (Fs : List (List Nz)) : List Nz := if soOk Fs then (soF Fs).1 else []
theorem soV_no {Fs : List (List Nz)} (h : soOk Fs = false) : soV Fs = [] := by unfold soV; rw [h]; rfl
theorem soV_yes {Fs : List (List Nz)} (h : soOk Fs = true) : soV Fs = (soF Fs).1 := by unfold soV; rw [h]; rfl
theorem soOk_all {Fs : List (List Nz)} (h : alB 12 Fs = false) : soOk Fs = false := by
  cases hs : soOk Fs with
  | false => rfl
  | true =>
    unfold soOk at hs
    rw [Bool.and_eq_true] at hs
    have h2 : alB 12 Fs = true := by
      unfold alB
      rw [hs.1, Bool.true_and, List.all_eq_true]
      exact soF_good Fs hs.2
    rw [h2] at h
    cases h
end

section
section
open Go.RowKit
set_option linter.unusedVariables false
set_option linter.unusedSimpArgs false
theorem mul_cast {m n : Nat} (h : m * n ≤ 1000000) : IntKind.i64.wrap ((m : Int) * (n : Int)) = ((m * n : Nat) : Int) := by
  rw [← Int.natCast_mul]
  exact IntWalk.i64_in _ (by omega)
theorem pairB_parts {f g : List Nz} {r1 r2 r : Bool} (h1 : goodB f = r1) (h2 : goodB g = r2) (hr : pairB f g = r) : r = (r1 && (r2 && decide (f.length * g.length ≤ 1600))) := by
  rw [← hr, ← h1, ← h2]; rfl
set_option maxRecDepth 100000 in
set_option maxHeartbeats 2000000 in
theorem goodPair_calls (va vb : Value) (f g : List Nz) (r : Bool) (hr : Hid (pairB f g = r)) (w : World) (lo hi lo' hi' : Nat) (hh : hi ≤ w.heap.size) (hh' : hi' ≤ w.heap.size) (hva : NodesZ w lo hi va f) (hvb : NodesZ w lo' hi' vb g) :
    Calls Try.prog 31 #[.agg #[va], .agg #[vb]] w fun e w' => e = .returned (.bool r) ∧ Below w.heap.size w w' := by
  have HB0 := Lib.hid fun o o' => show Below w.heap.size w ((w.alloc o).alloc o') from ((Below.refl _ _).alloc (Nat.le_refl _) _).alloc (by simp) _
  obtain ⟨r1, h1⟩ : ∃ r, goodB f = r := ⟨_, rfl⟩
  obtain ⟨r2, h2⟩ : ∃ r, goodB g = r := ⟨_, rfl⟩
  have HR := Lib.hid (pairB_parts h1 h2 hr.out)
  have HLA : Hid (r1 = true → f.length ≤ 120) := Lib.hid (fun e => (good_parts (h1.trans e)).2.2.2.2.1)
  have HLB : Hid (r2 = true → g.length ≤ 120) := Lib.hid (fun e => (good_parts (h2.trans e)).2.2.2.2.1)
  have CA := Lib.hid fun (W : World) (hW : Below w.heap.size w W) => goodI_resN va f r1 (Lib.hid h1) W lo hi (Nat.le_trans hh hW.size) (hva.below hW hh)
  have CB := Lib.hid fun (W : World) (hW : Below w.heap.size w W) => goodI_resN vb g r2 (Lib.hid h2) W lo' hi' (Nat.le_trans hh' hW.size) (hvb.below hW hh')
  obtain ⟨aa, ca, rfl⟩ : ∃ ao c, va = .slice ao f.length c := by obtain ⟨ao, c, e, _⟩ := hva; exact ⟨ao, c, e⟩
  obtain ⟨ab, cb, rfl⟩ : ∃ ao c, vb = .slice ao g.length c := by obtain ⟨ao, c, e, _⟩ := hvb; exact ⟨ao, c, e⟩
  clear h1 h2 hr hva hvb
  go_enter Try.func31, Try.ntmps31
  go_wp2_with fail
  refine (CA.out _ (HB0.out _ _)).mono ?_
  rintro e w4 ⟨rfl, hb4⟩
  have k1 : w4.cell? ⟨w.heap.size, 0, none⟩ = some (.slice aa f.length ca) := (bcell hb4 _ _ (by simp; omega)).trans (by go_simp)
  have k2 : w4.cell? ⟨w.heap.size + 1, 0, none⟩ = some (.slice ab g.length cb) := (bcell hb4 _ _ (by simp)).trans (by go_simp)
  have HB4 := Lib.hid (Below.trans (HB0.out _ _) (hb4.mono (by simp; omega)))
  clear hb4 CA
  cases r1 with
  | false =>
    obtain rfl := HR.out
    go_wp2_with fail
    go_ret
    exact ⟨rfl, HB4.out⟩
  | true =>
    have b1 := block_of_cell k1
    have b2 := block_of_cell k2
    go_wp2_with fail
    refine (CB.out _ HB4.out).mono ?_
    rintro e w5 ⟨rfl, hb5⟩
    have k1 := (bcell hb5 _ _ b1).trans k1
    have k2 := (bcell hb5 _ _ b2).trans k2
    have HB5 := Lib.hid (HB4.out.trans (hb5.mono HB4.out.size))
    clear hb5 b1 b2
    cases r2 with
    | false =>
      obtain rfl := HR.out
      go_wp2_with fail
      go_ret
      exact ⟨rfl, HB5.out⟩
    | true =>
      have hla : f.length ≤ 120 := by have h := HLA.out; simpa using h
      have hlb : g.length ≤ 120 := by have h := HLB.out; simpa using h
      have hAB : f.length * g.length ≤ 120 * 120 := Nat.mul_le_mul hla hlb
      obtain ⟨n, hn⟩ : ∃ n : Nat, f.length * g.length = n := ⟨_, rfl⟩
      have HR2 : Hid (r = decide (n ≤ 1600)) := Lib.hid (by rw [HR.out, hn]; rfl)
      have hwm : IntKind.i64.wrap ((f.length : Int) * (g.length : Int)) = (n : Int) := by rw [mul_cast (by omega), hn]
      rw [hn] at hAB
      clear hn HR
      have hde : decide ((n : Int) ≤ 1600) = r := by rw [HR2.out]; exact decide_eq_decide.2 (by clear hwm; omega)
      go_wp2_with fail
      go_ret
      exact ⟨by first | rfl | exact ret_bool hde, HB5.out⟩
end
end

section
section
open Go.RowKit
set_option linter.unusedVariables false
set_option linter.unusedSimpArgs false
theorem optPick_calls (v1 v2 v : Value) (left : Bool) (hv : Hid ((if left then v1 else v2) = v)) (w : World) :
    Calls Try.prog 67 #[.agg #[v1, v2], .bool left] w fun e w' => e = .returned v ∧ Below w.heap.size w w' := by
  have hb : Below w.heap.size w (w.alloc (.cells #[v1, v2] 57)) := (Below.refl _ _).alloc (Nat.le_refl _) _
  have HB := Lib.hid hb
  clear hb
  cases left with
  | true =>
    have h := hv.out
    simp at h
    subst h
    go_enter Try.func67, Try.ntmps67
    go_wp2
    go_ret
    exact ⟨rfl, HB.out⟩
  | false =>
    have h := hv.out
    simp at h
    subst h
    go_enter Try.func67, Try.ntmps67
    go_wp2
    go_ret
    exact ⟨rfl, HB.out⟩
theorem cast_pair (i n j : Nat) : ((i * n + j : Nat) : Int) = (i : Int) * (n : Int) + (j : Int) := by rw [Int.natCast_add, Int.natCast_mul]
set_option maxHeartbeats 1000000 in
theorem place_calls (i j n pb c : Nat) (a : Option Addr) (w : World) (h : w.cell? ⟨pb, 0, none⟩ = some (.slice a n c)) (hi : i ≤ 1000) (hj : j ≤ 1000) (hn : n ≤ 1000) :
    Calls Try.prog 65 #[.int .i64 (i : Int), .int .i64 (j : Int), .pointer (some ⟨pb, 0, none⟩)] w fun e w' => e = .returned (.int .i64 ((i * n + j : Nat) : Int)) ∧ w = w' := by
  have hin : i * n ≤ 1000 * 1000 := Nat.mul_le_mul hi hn
  obtain ⟨m, hm⟩ : ∃ m : Int, (i : Int) * (n : Int) = m := ⟨_, rfl⟩
  have hm0 : 0 ≤ m ∧ m ≤ 1000000 := by
    have : ((i * n : Nat) : Int) = m := by rw [Int.natCast_mul]; exact hm
    omega
  have hw1 : IntKind.i64.wrap ((i : Int) * (n : Int)) = m := by rw [hm]; exact IntWalk.i64_in _ (by omega)
  have hw2 : IntKind.i64.wrap (m + (j : Int)) = m + (j : Int) := IntWalk.i64_in _ (by omega)
  have HE : Hid (((i * n + j : Nat) : Int) = m + (j : Int)) := Lib.hid (by rw [cast_pair, hm])
  obtain ⟨m0, m1⟩ := hm0
  have HM := Lib.hid hm
  clear hm
  go_enter Try.func65, Try.ntmps65
  go_wp2
  go_ret
  exact ⟨ret_int (by rw [HE.out]), rfl⟩
/-- one side of a node -/
def sideN (P : List Nd) (i : Nat) (left : Bool) : List Nat := if left then (P.getD i ([], [])).1 else (P.getD i ([], [])).2
/-- the node's slice on one side -/
theorem side_at {P : List Nd} {w : World} {lo hi : Nat} {ao : Option Addr} {c i : Nat} (left : Bool) (h : NodesZ w lo hi (.slice ao P.length c) (P.map upN)) (hu : Under P) (hs : ∀ nd ∈ P, nd.1.length ≤ 24 ∧ nd.2.length ≤ 24) (hi0 : i < P.length) :
    ∃ b off v1 v2 x y, ao = some ⟨b, off, none⟩ ∧ b < hi ∧ w.cell? ⟨b, off + i * 2, none⟩ = some v1 ∧ w.cell? ⟨b, off + i * 2 + 1, none⟩ = some v2 ∧ (if left then v1 else v2) = .slice x (sideN P i left).length y ∧ IntsZ w lo hi (.slice x (sideN P i left).length y) (upL (sideN P i left)) ∧ (sideN P i left).length ≤ 24 ∧ ∀ o ∈ sideN P i left, o < i := by
  obtain ⟨nd, hnd⟩ := lt_get hi0
  obtain ⟨b, off, cc, v1, v2, e, hbh, p1, p2, i1, i2⟩ := nodes_atP h hnd
  obtain ⟨q1, q2, q3⟩ := slice_inj e
  obtain ⟨a1, d1, rfl, _⟩ := ints_lenP i1
  obtain ⟨a2, d2, rfl, _⟩ := ints_lenP i2
  have h1 := hs nd (List.mem_of_getElem? hnd)
  have h2 := hu i nd hnd
  have h3 := getD_at hnd
  cases left with
  | true =>
    refine ⟨b, off, _, _, a1, d1, q1, hbh, p1, p2, ?_, ?_, ?_, ?_⟩
    · unfold sideN; rw [h3]; rfl
    · unfold sideN; rw [h3]; exact i1
    · unfold sideN; rw [h3]; exact h1.1
    · unfold sideN; rw [h3]; exact fun o ho => h2 o (Or.inl ho)
  | false =>
    refine ⟨b, off, _, _, a2, d2, q1, hbh, p1, p2, ?_, ?_, ?_, ?_⟩
    · unfold sideN; rw [h3]; rfl
    · unfold sideN; rw [h3]; exact i2
    · unfold sideN; rw [h3]; exact h1.2
    · unfold sideN; rw [h3]; exact fun o ho => h2 o (Or.inr ho)
set_option maxRecDepth 100000 in
set_option maxHeartbeats 4000000 in
theorem moves_calls (i j : Nat) (left : Bool) (A B : List Nd) (aa ab : Option Addr) (ca cb pa pp pb : Nat) (w : World) (lo hi lo' hi' : Nat) (hh : hi ≤ w.heap.size) (hh' : hi' ≤ w.heap.size) (ha : NodesZ w lo hi (.slice aa A.length ca) (A.map upN)) (hb : NodesZ w lo' hi' (.slice ab B.length cb) (B.map upN))
    (ka : w.cell? ⟨pa, 0, none⟩ = some (.slice aa A.length ca)) (kb : w.cell? ⟨pb, 0, none⟩ = some (.slice ab B.length cb)) (kp : w.cell? ⟨pp, 0, none⟩ = some (.func (.func 65) #[] #[.pointer (some ⟨pb, 0, none⟩)]))
    (hi0 : i < A.length) (hj : j < B.length) (hA : A.length ≤ 120) (hB : B.length ≤ 120) (uA : Under A) (uB : Under B) (sA : ∀ nd ∈ A, nd.1.length ≤ 24 ∧ nd.2.length ≤ 24) (sB : ∀ nd ∈ B, nd.1.length ≤ 24 ∧ nd.2.length ≤ 24) :
    Calls Try.prog 66 #[.int .i64 (i : Int), .int .i64 (j : Int), .bool left, .pointer (some ⟨pa, 0, none⟩), .pointer (some ⟨pp, 0, none⟩), .pointer (some ⟨pb, 0, none⟩)] w fun e w' => ∃ a c, e = .returned (.slice a (sumLP B.length i j (sideN A i left) (sideN B j left)).length c) ∧
      OwnI w' w.heap.size (.slice a (sumLP B.length i j (sideN A i left) (sideN B j left)).length c) (upL (sumLP B.length i j (sideN A i left) (sideN B j left))) ∧ Below w.heap.size w w' := by
  obtain ⟨iI, hiI, hzI0, hzI1, hzI2⟩ := info_parts infoIntA
  obtain ⟨b1, o1, v1, v2, x1, y1, rfl, _, p1, p2, e1, i1, n1, l1⟩ := side_at left ha uA sA hi0
  obtain ⟨b2, o2, u1, u2, x2, y2, rfl, _, r1, r2, e2, i2, n2, l2⟩ := side_at left hb uB sB hj
  obtain ⟨L1, hL1⟩ : ∃ L, sideN A i left = L := ⟨_, rfl⟩
  obtain ⟨L2, hL2⟩ : ∃ L, sideN B j left = L := ⟨_, rfl⟩
  rw [hL1] at e1 i1 n1 l1 ⊢
  rw [hL2] at e2 i2 n2 l2 ⊢
  have CO1 := Lib.hid fun (W : World) => optPick_calls v1 v2 (.slice x1 L1.length y1) left (Lib.hid e1) W
  have CO2 := Lib.hid fun (W : World) => optPick_calls u1 u2 (.slice x2 L2.length y2) left (Lib.hid e2) W
  have HL1 : Hid (∀ o ∈ L1, o < A.length) := Lib.hid (fun o ho => by have := l1 o ho; omega)
  have HL2 : Hid (∀ o ∈ L2, o < B.length) := Lib.hid (fun o ho => by have := l2 o ho; omega)
  have I1 := Lib.hid i1
  have I2 := Lib.hid i2
  have g0 : (0 : Int) ≤ i := by omega
  have g1 : (i : Int) < A.length := by omega
  have g2 : (0 : Int) ≤ j := by omega
  have g3 : (j : Int) < B.length := by omega
  clear e1 e2 i1 i2 l1 l2 hL1 hL2 ha hb uA uB sA sB
  go_enter Try.func66, Try.ntmps66
  go_wp2_with fail
  refine (CO1.out _).mono ?_
  rintro e wo ⟨rfl, hbo⟩
  have HBO := Lib.hid hbo
  have kb1 := kb
  have kp1 := kp
  have hsw := hbo.size
  clear hbo CO1
  go_wp2
  go_loopw [10, 22] (fun v t wr => ∃ (k m : Nat) (a : Option Addr) (c : Nat), k ≤ L1.length ∧ t = .int .i64 k ∧ v = .slice a m c ∧ Hid (m = ((L1.take k).map (fun o => o * B.length + j)).length) ∧ Hid (OwnI wr w.heap.size (.slice a m c) (upL ((L1.take k).map (fun o => o * B.length + j)))) ∧ Hid (RowKit.Below w.heap.size w wr) ∧ w.heap.size ≤ wr.heap.size) (fun _ i _ => L1.length - (intOf i).toNat)
  case atStart => exact ⟨0, 0, none, 0, Nat.zero_le _, rfl, rfl, Lib.hid (by simp), Lib.hid (OwnI.nil _ _), HBO, hsw⟩
  case round =>
    skip
    obtain ⟨k, m, a, c, hk, rfl, rfl, hm, ho, hbw, hsz⟩ := hrel
    by_cases hlt : k < L1.length
    · obtain ⟨x, hx⟩ := lt_get hlt
      have hxn : x < A.length := HL1.out x (List.mem_of_getElem? hx)
      have kbr := (bcell hbw.out _ _ (block_of_cell kb1)).trans kb1
      have kpr := (bcell hbw.out _ _ (block_of_cell kp1)).trans kp1
      obtain ⟨bx, ox, hxa, _, hxc⟩ := ints_atP ((I1.out).below hbw.out (by omega)) hx
      subst hxa
      have k0 : (0 : Int) ≤ k := by omega
      have k1 : (k : Int) < L1.length := by omega
      have hks : (upL ((L1.take k).map (fun o => o * B.length + j))).length ≤ 60 := by rw [upL_len]; simp only [List.length_append, List.length_map, List.length_take]; omega
      have CP := Lib.hid (place_calls x j B.length pb cb _ wr kbr (by omega) (by omega) (by omega))
      obtain ⟨PL, hPL⟩ : ∃ l, (L1.take k).map (fun o => o * B.length + j) = l := ⟨_, rfl⟩
      obtain ⟨z, hz⟩ : ∃ z, x * B.length + j = z := ⟨_, rfl⟩
      rw [hPL] at ho hks
      rw [hz] at CP
      have HPL := Lib.hid hPL
      have HZ := Lib.hid hz
      have HX := Lib.hid hx
      clear hx hPL hz
      go_wp2_with (first
        | (go_at_call 65; refine CP.out.mono ?_; rintro e w' ⟨rfl, rfl⟩)
        | (at_builtin; refine wpList_append_own_at _ rfl _ _ 34 rfl w.heap.size 3 iI (.int .i64 0) 1 8 Try.underlying34 hiI hzI0 hzI1 hzI2 rfl (by decide) _ _ _ rfl (World.ownsRow.alloc ho.out _) ⟨wr.heap.size, 0, none⟩ 1 1 [.int .i64 (z : Int)] rfl rfl ?e1 ?e2 ?e3 ?e4 ?e5 ?_))
      case e1 => exact World.news_of_block (heap_alloc_new _ _)
      case e2 => first | rfl | (intro u hu; simp at hu; subst hu; rfl)
      case e3 => unfold maxLen; omega
      case e4 => omega
      case e5 => simp; omega
      intro v6 w6 hown6 hgrow6 hnil6 hat6
      have hal : RowKit.Below wr.heap.size wr (wr.alloc (.cells #[.int .i64 (z : Int)] 3)) := (RowKit.Below.refl _ _).alloc (Nat.le_refl _) _
      have hol := ho.out.lt
      have O6 : OwnI w6 w.heap.size v6 (upL ((L1.take (k + 1)).map (fun o => o * B.length + j))) := by
        have e : (L1.take (k + 1)).map (fun o => o * B.length + j) = PL ++ [z] := by
          rw [take_snoc' HX.out, List.map_append, ← HPL.out, ← HZ.out]
          first | rfl | (rw [← List.append_assoc]; rfl)
        rw [e, upL_snoc]
        unfold OwnI
        rw [List.map_append, List.length_append]
        exact hown6
      obtain ⟨a6, c6, hv6⟩ := O6.form
      have hm6 : (upL ((L1.take (k + 1)).map (fun o => o * B.length + j))).length = m + 1 := by
        rw [upL_len]
        have := hm.out
        simp only [List.length_append, List.length_map, List.length_take] at this ⊢
        omega
      rw [hm6] at hv6
      subst hv6
      have HO6 := Lib.hid O6
      have hb6 : RowKit.Below w.heap.size wr w6 := (hal.mono hsz).grown hgrow6 (by simp; omega) (fun g e => (hol g e).1)
      have HB6 := Lib.hid (hbw.out.trans (hb6.mono (Nat.le_refl _)))
      have hsz6 : w.heap.size ≤ w6.heap.size := by have := hb6.size; omega
      have HM6 : Hid (m + 1 = ((L1.take (k + 1)).map (fun o => o * B.length + j)).length) := Lib.hid (by rw [← hm6, upL_len])
      clear hown6 hgrow6 hnil6 hat6 hal hol O6 hm6 hb6 ho hbw CP hm kbr kpr hks hxc
      go_wp2
      go_roundw
      case rel => exact ⟨k + 1, m + 1, a6, c6, by omega, by go_num, rfl, HM6, HO6, HB6, hsz6⟩
      case measure => first | (simp [intOf]; done) | (simp [intOf]; omega)
    · have hke : k = L1.length := by omega
      subst hke
      rw [List.take_length] at ho hm
      have pa1 := (bcell hbw.out _ _ (block_of_cell kb)).trans kb
      have r1' := (bcell hbw.out _ _ (block_of_cell r1)).trans r1
      have r2' := (bcell hbw.out _ _ (block_of_cell r2)).trans r2
      have HBW := hbw
      obtain ⟨W1, hW1⟩ : ∃ W, W = wr := ⟨_, rfl⟩
      subst hW1
      go_wp2_with fail
      refine (CO2.out _).mono ?_
      rintro e wo2 ⟨rfl, hbo2⟩
      have HO2 := Lib.hid (ho.out.below hbo2)
      have HB2 := Lib.hid (HBW.out.trans (hbo2.mono hsz))
      have kb2 := kb
      have kp2 := kp
      have hs2 := hbo2.size
      clear ho hbw hbo2 CO2 HBW
      go_wp2
      go_loopw [10, 41] (fun v t wr => ∃ (k m : Nat) (a : Option Addr) (c : Nat), k ≤ L2.length ∧ t = .int .i64 k ∧ v = .slice a m c ∧ Hid (m = (L1.map (fun o => o * B.length + j) ++ (L2.take k).map (fun o => i * B.length + o)).length) ∧ Hid (OwnI wr w.heap.size (.slice a m c) (upL (L1.map (fun o => o * B.length + j) ++ (L2.take k).map (fun o => i * B.length + o)))) ∧ Hid (RowKit.Below w.heap.size w wr) ∧ w.heap.size ≤ wr.heap.size) (fun _ i _ => L2.length - (intOf i).toNat)
      case atStart => exact ⟨0, m, a, c, Nat.zero_le _, rfl, rfl, Lib.hid (by rw [List.take_zero, List.map_nil, List.append_nil]; exact hm.out), Lib.hid (by rw [List.take_zero, List.map_nil, List.append_nil]; exact HO2.out), HB2, by omega⟩
      case round =>
        skip
        obtain ⟨k, m, a, c, hk, rfl, rfl, hm, ho, hbw, hsz⟩ := hrel
        by_cases hlt : k < L2.length
        · obtain ⟨x, hx⟩ := lt_get hlt
          have hxn : x < B.length := HL2.out x (List.mem_of_getElem? hx)
          have kbr := (bcell hbw.out _ _ (block_of_cell kb2)).trans kb2
          have kpr := (bcell hbw.out _ _ (block_of_cell kp2)).trans kp2
          obtain ⟨bx, ox, hxa, _, hxc⟩ := ints_atP ((I2.out).below hbw.out (by omega)) hx
          subst hxa
          have k0 : (0 : Int) ≤ k := by omega
          have k1 : (k : Int) < L2.length := by omega
          have hks : (upL (L1.map (fun o => o * B.length + j) ++ (L2.take k).map (fun o => i * B.length + o))).length ≤ 60 := by rw [upL_len]; simp only [List.length_append, List.length_map, List.length_take]; omega
          have CP := Lib.hid (place_calls i x B.length pb cb _ wr kbr (by omega) (by omega) (by omega))
          obtain ⟨PL, hPL⟩ : ∃ l, L1.map (fun o => o * B.length + j) ++ (L2.take k).map (fun o => i * B.length + o) = l := ⟨_, rfl⟩
          obtain ⟨z, hz⟩ : ∃ z, i * B.length + x = z := ⟨_, rfl⟩
          rw [hPL] at ho hks
          rw [hz] at CP
          have HPL := Lib.hid hPL
          have HZ := Lib.hid hz
          have HX := Lib.hid hx
          clear hx hPL hz
          go_wp2_with (first
            | (go_at_call 65; refine CP.out.mono ?_; rintro e w' ⟨rfl, rfl⟩)
            | (at_builtin; refine wpList_append_own_at _ rfl _ _ 34 rfl w.heap.size 3 iI (.int .i64 0) 1 8 Try.underlying34 hiI hzI0 hzI1 hzI2 rfl (by decide) _ _ _ rfl (World.ownsRow.alloc ho.out _) ⟨wr.heap.size, 0, none⟩ 1 1 [.int .i64 (z : Int)] rfl rfl ?e1 ?e2 ?e3 ?e4 ?e5 ?_))
          case e1 => exact World.news_of_block (heap_alloc_new _ _)
          case e2 => first | rfl | (intro u hu; simp at hu; subst hu; rfl)
          case e3 => unfold maxLen; omega
          case e4 => omega
          case e5 => simp; omega
          intro v6 w6 hown6 hgrow6 hnil6 hat6
          have hal : RowKit.Below wr.heap.size wr (wr.alloc (.cells #[.int .i64 (z : Int)] 3)) := (RowKit.Below.refl _ _).alloc (Nat.le_refl _) _
          have hol := ho.out.lt
          have O6 : OwnI w6 w.heap.size v6 (upL (L1.map (fun o => o * B.length + j) ++ (L2.take (k + 1)).map (fun o => i * B.length + o))) := by
            have e : L1.map (fun o => o * B.length + j) ++ (L2.take (k + 1)).map (fun o => i * B.length + o) = PL ++ [z] := by
              rw [take_snoc' HX.out, List.map_append, ← HPL.out, ← HZ.out]
              first | rfl | (rw [← List.append_assoc]; rfl)
            rw [e, upL_snoc]
            unfold OwnI
            rw [List.map_append, List.length_append]
            exact hown6
          obtain ⟨a6, c6, hv6⟩ := O6.form
          have hm6 : (upL (L1.map (fun o => o * B.length + j) ++ (L2.take (k + 1)).map (fun o => i * B.length + o))).length = m + 1 := by
            rw [upL_len]
            have := hm.out
            simp only [List.length_append, List.length_map, List.length_take] at this ⊢
            omega
          rw [hm6] at hv6
          subst hv6
          have HO6 := Lib.hid O6
          have hb6 : RowKit.Below w.heap.size wr w6 := (hal.mono hsz).grown hgrow6 (by simp; omega) (fun g e => (hol g e).1)
          have HB6 := Lib.hid (hbw.out.trans (hb6.mono (Nat.le_refl _)))
          have hsz6 : w.heap.size ≤ w6.heap.size := by have := hb6.size; omega
          have HM6 : Hid (m + 1 = (L1.map (fun o => o * B.length + j) ++ (L2.take (k + 1)).map (fun o => i * B.length + o)).length) := Lib.hid (by rw [← hm6, upL_len])
          clear hown6 hgrow6 hnil6 hat6 hal hol O6 hm6 hb6 ho hbw CP hm kbr kpr hks hxc
          go_wp2
          go_roundw
          case rel => exact ⟨k + 1, m + 1, a6, c6, by omega, by go_num, rfl, HM6, HO6, HB6, hsz6⟩
          case measure => first | (simp [intOf]; done) | (simp [intOf]; omega)
        · have hke : k = L2.length := by omega
          subst hke
          rw [List.take_length] at ho hm
          go_wp2
          go_ret
          have e := hm.out
          subst e
          exact ⟨a, c, rfl, ho.out, hbw.out⟩
end
section
open Go.RowKit
set_option linter.unusedVariables false
set_option linter.unusedSimpArgs false
set_option maxRecDepth 100000 in
set_option maxHeartbeats 4000000 in
theorem sumNodes_calls (A B : List Nd) (aa ab : Option Addr) (ca cb : Nat) (w : World) (lo hi lo' hi' : Nat) (hh : hi ≤ w.heap.size) (hh' : hi' ≤ w.heap.size) (ha : NodesZ w lo hi (.slice aa A.length ca) (A.map upN)) (hb : NodesZ w lo' hi' (.slice ab B.length cb) (B.map upN))
    (hA : A.length ≤ 120) (hB : B.length ≤ 120) (uA : Under A) (uB : Under B) (sA : ∀ nd ∈ A, nd.1.length ≤ 24 ∧ nd.2.length ≤ 24) (sB : ∀ nd ∈ B, nd.1.length ≤ 24 ∧ nd.2.length ≤ 24) :
    Calls Try.prog 33 #[.slice aa A.length ca, .slice ab B.length cb] w fun e w' => ∃ g vs, e = .returned (.slice (some ⟨g, 0, none⟩) (A.length * B.length) (A.length * B.length)) ∧ RowZ w' w.heap.size g (A.length * B.length) vs ((sumN A B).map upN) (A.length * B.length) ∧ Below w.heap.size w w' := by
  obtain ⟨iN, hiN, hzN0, hzN1, hzN2⟩ := info_parts infoNodeA
  have hAB : A.length * B.length ≤ 120 * 120 := Nat.mul_le_mul hA hB
  have hmul := mul_cast (m := A.length) (n := B.length) (by omega)
  have CM := Lib.hid fun (i j : Nat) (left : Bool) (pa pp pb : Nat) (W : World) (hW : Below w.heap.size w W) ka kb kp hi0 hj => moves_calls i j left A B aa ab ca cb pa pp pb W lo hi lo' hi' (Nat.le_trans hh hW.size) (Nat.le_trans hh' hW.size) (ha.below hW hh) (hb.below hW hh') ka kb kp hi0 hj hA hB uA uB sA sB
  have HSN := Lib.hid fun (i j : Nat) (hi : i < A.length) (hj : j < B.length) => sumN_at hi hj
  clear ha hb uA uB sA sB
  go_enter Try.func33, Try.ntmps33
  go_wp2_with (at_make; refine wpList_make_full _ rfl _ _ 26 rfl w.heap.size 57 iN (.agg #[.slice none 0 0, .slice none 0 0]) 2 Try.underlying26 hiN hzN0 hzN1 _ _ _ _ (A.length * B.length) rfl rfl ?z1 ?z2 ?z3 ?z4 ?z5 ?_; (go_loud (first | rfl | (simp; done))); (go_loud (first | rfl | (simp; done))); (go_loud (clear hmul; rw [hzN2]; omega)); (go_loud (clear hmul; unfold maxLen; omega)); (go_loud (clear hmul; first | (simp; done) | (simp; omega))); intro w5 hown hgr; clear hmul; have hz3 : (((w.alloc (.cells #[.slice aa A.length ca] 26)).alloc (.cells #[.slice ab B.length cb] 26)).alloc (.cells #[.func (.func 65) #[] #[.pointer (some ⟨w.heap.size + 1, 0, none⟩)]] 89)).heap.size = w.heap.size + 3 := (by go_loud (simp)); have hb5 : Below (w.heap.size + 3) (((w.alloc (.cells #[.slice aa A.length ca] 26)).alloc (.cells #[.slice ab B.length cb] 26)).alloc (.cells #[.func (.func 65) #[] #[.pointer (some ⟨w.heap.size + 1, 0, none⟩)]] 89)) w5 := (by go_loud (rw [← hz3]; exact (Below.refl _ _).grown hgr (Nat.le_refl _) (fun k hk => by cases hk))); have kf : w5.cell? ⟨w.heap.size, 0, none⟩ = some (.slice aa A.length ca) := (bcell hb5 _ _ (by omega)).trans (by go_loud (go_simp)); have kg : w5.cell? ⟨w.heap.size + 1, 0, none⟩ = some (.slice ab B.length cb) := (bcell hb5 _ _ (by omega)).trans (by go_loud (go_simp)); have kp : w5.cell? ⟨w.heap.size + 1 + 1, 0, none⟩ = some (.func (.func 65) #[] #[.pointer (some ⟨w.heap.size + 1, 0, none⟩)]) := (bcell hb5 _ _ (by omega)).trans (by go_loud (go_simp)))
  rw [hz3] at hown
  have HR := Lib.hid (RowZ.made (F := (sumN A B).map upN) hown)
  have HB5 : Hid (Below w.heap.size w w5) := Lib.hid ((((((Below.refl _ _).alloc (Nat.le_refl _) _).alloc (by simp) _).alloc (by simp; omega) _).trans (hb5.mono (by omega))))
  have hgw := (World.ownsRow.lt hown _ rfl).2
  clear hown hgr hb5 hz3
  go_wp2
  go_loopw [20] (fun t wr => ∃ (i : Nat) (vs : List (Value × Value)), i ≤ A.length ∧ t = .int .i64 i ∧ Hid (RowZ wr w.heap.size (w.heap.size + 3) (A.length * B.length) vs ((sumN A B).map upN) (i * B.length)) ∧ Hid (Below w.heap.size w wr) ∧ Hid (wr.cell? ⟨w.heap.size, 0, none⟩ = some (.slice aa A.length ca) ∧ wr.cell? ⟨w.heap.size + 1, 0, none⟩ = some (.slice ab B.length cb) ∧ wr.cell? ⟨w.heap.size + 1 + 1, 0, none⟩ = some (.func (.func 65) #[] #[.pointer (some ⟨w.heap.size + 1, 0, none⟩)]))) (fun t _ => A.length - (intOf t).toNat)
  case atStart => exact ⟨0, _, Nat.zero_le _, rfl, by rw [Nat.zero_mul]; exact HR, HB5, Lib.hid ⟨kf, kg, kp⟩⟩
  case round =>
    obtain ⟨i, vs, hi0, rfl, hr, hbw, hc⟩ := hrel
    clear HR HB5 kf kg kp
    obtain ⟨kf, kg, kp⟩ := hc.out
    by_cases hlt : i < A.length
    · have i0 : (0 : Int) ≤ i := by omega
      have i1 : (i : Int) < A.length := by omega
      obtain ⟨W0, hW0⟩ : ∃ W, W = wr := ⟨_, rfl⟩
      subst hW0
      go_wp2
      go_loopw [25] (fun t wr => ∃ (j : Nat) (vs : List (Value × Value)), j ≤ B.length ∧ t = .int .i64 j ∧ Hid (RowZ wr w.heap.size (w.heap.size + 3) (A.length * B.length) vs ((sumN A B).map upN) (i * B.length + j)) ∧ Hid (RowKit.Below w.heap.size w wr) ∧ Hid (wr.cell? ⟨w.heap.size, 0, none⟩ = some (.slice aa A.length ca) ∧ wr.cell? ⟨w.heap.size + 1, 0, none⟩ = some (.slice ab B.length cb) ∧ wr.cell? ⟨w.heap.size + 1 + 1, 0, none⟩ = some (.func (.func 65) #[] #[.pointer (some ⟨w.heap.size + 1, 0, none⟩)]))) (fun t _ => B.length - (intOf t).toNat)
      case atStart => exact ⟨0, vs, Nat.zero_le _, rfl, hr, hbw, hc⟩
      case round =>
        clear hr hbw hc kf kg kp
        obtain ⟨j, vs, hj0, rfl, hr, hbw, hc⟩ := hrel
        obtain ⟨kf, kg, kp⟩ := hc.out
        by_cases hlt2 : j < B.length
        · have j0 : (0 : Int) ≤ j := by omega
          have j1 : (j : Int) < B.length := by omega
          have hpl := pair_lt hlt hlt2
          have hnd := HSN.out i j hlt hlt2
          have CP := Lib.hid (place_calls i j B.length (w.heap.size + 1) cb ab wr kg (by omega) (by omega) (by omega))
          have CL := Lib.hid (CM.out i j true w.heap.size (w.heap.size + 1 + 1) (w.heap.size + 1) wr hbw.out kf kg kp hlt hlt2)
          have CR := Lib.hid fun (W : World) (hW : RowKit.Below wr.heap.size wr W) => CM.out i j false w.heap.size (w.heap.size + 1 + 1) (w.heap.size + 1) W (hbw.out.trans (hW.mono hbw.out.size)) ((bcell hW _ _ (block_of_cell kf)).trans kf) ((bcell hW _ _ (block_of_cell kg)).trans kg) ((bcell hW _ _ (block_of_cell kp)).trans kp) hlt hlt2
          obtain ⟨q, hq⟩ : ∃ q, i * B.length + j = q := ⟨_, rfl⟩
          rw [hq] at CP hpl hnd hr
          have HQ := Lib.hid hq
          have HND := Lib.hid hnd
          obtain ⟨LL, hLL⟩ : ∃ l, sumLP B.length i j (sideN A i true) (sideN B j true) = l := ⟨_, rfl⟩
          obtain ⟨LR, hLR⟩ : ∃ l, sumLP B.length i j (sideN A i false) (sideN B j false) = l := ⟨_, rfl⟩
          rw [hLL] at CL
          rw [hLR] at CR
          have HSA : Hid (sumAt A B i j = (LL, LR)) := Lib.hid (by rw [← hLL, ← hLR]; rfl)
          clear hq hnd hLL hLR
          have hgw := (World.ownsRow.lt hr.out.row (w.heap.size + 3) rfl).2
          have hsw := hbw.out.size
          go_wp2_with fail
          refine CP.out.mono ?_
          rintro e w' ⟨rfl, rfl⟩
          go_wp2_with fail
          refine CL.out.mono ?_
          rintro e wl ⟨al, cl, rfl, hol, hbl⟩
          have C3 := Lib.hid (CR.out wl hbl)
          have HOL := Lib.hid hol
          have HBL := Lib.hid hbl
          clear hol hbl CL CR CP
          go_wp2_with fail
          refine C3.out.mono ?_
          rintro e w2 ⟨ar, cr, rfl, hor, hbr⟩
          have hb2 : RowKit.Below wr.heap.size wr w2 := HBL.out.trans (hbr.mono HBL.out.size)
          have hs2 := hb2.size
          have hsl := HBL.out.size
          have R2 := hr.out.below hb2
          have X1 : IntsX w2 (w.heap.size + 3) (.slice al LL.length cl) (upL LL) := ⟨wr.heap.size, w2.heap.size, Nat.le_refl _, Or.inl hgw, (HOL.out.below hbr).ints⟩
          have X2 : IntsX w2 (w.heap.size + 3) (.slice ar LR.length cr) (upL LR) := ⟨wl.heap.size, w2.heap.size, Nat.le_refl _, Or.inl (by omega), hor.ints⟩
          obtain ⟨po, hpo, m1, m2, mf1, mf2⟩ := R2.cells hpl
          have ho : Only w2 ((w2.setCell ⟨w.heap.size + 3, q * 2, none⟩ (.slice al LL.length cl)).setCell ⟨w.heap.size + 3, q * 2 + 1, none⟩ (.slice ar LR.length cr)) (fun b => b = w.heap.size + 3) := (Only.of_set (F := fun b => b = w.heap.size + 3) (p := ⟨w.heap.size + 3, q * 2, none⟩) _ rfl).trans (Only.of_set (F := fun b => b = w.heap.size + 3) (p := ⟨w.heap.size + 3, q * 2 + 1, none⟩) _ rfl) (fun _ _ h => h)
          have R3 := Lib.hid (R2.set (k := q) (nd := upN (LL, LR)) (p := (.slice al LL.length cl, .slice ar LR.length cr)) hpl (by rw [List.getElem?_map, HND.out, HSA.out]; rfl) X1 X2)
          have B3 := Lib.hid ((hbw.out.trans (hb2.mono hsw)).trans (ho.below (Nat.le_trans hsw hs2) (fun b e => by omega)))
          have kfb := (bcell hb2 _ _ (block_of_cell kf)).trans kf
          have kgb := (bcell hb2 _ _ (block_of_cell kg)).trans kg
          have kpb := (bcell hb2 _ _ (block_of_cell kp)).trans kp
          have hot : ∀ b, b ≠ w.heap.size + 3 → ((w2.setCell ⟨w.heap.size + 3, q * 2, none⟩ (.slice al LL.length cl)).setCell ⟨w.heap.size + 3, q * 2 + 1, none⟩ (.slice ar LR.length cr)).cell? ⟨b, 0, none⟩ = w2.cell? ⟨b, 0, none⟩ := fun b hb => (World.cell?_setCell_other _ _ _ _ (fun e => by injection e with e _ _; exact hb e.symm)).trans (World.cell?_setCell_other _ _ _ _ (fun e => by injection e with e _ _; exact hb e.symm))
          have K3 := Lib.hid (And.intro ((hot w.heap.size (by omega)).trans kfb) (And.intro ((hot (w.heap.size + 1) (by omega)).trans kgb) ((hot (w.heap.size + 1 + 1) (by omega)).trans kpb)))
          have q0 : (0 : Int) ≤ q := by omega
          have q1 : (q : Int) < (A.length : Int) * (B.length : Int) := by rw [← Int.natCast_mul]; omega
          have HQ2 : Hid (i * B.length + (j + 1) = q + 1) := Lib.hid (by rw [← HQ.out]; rfl)
          clear hor hbr hb2 R2 X1 X2 ho hot kfb kgb kpb HOL HBL C3 hr hbw hc hpo
          go_wp2
          go_roundw
          case rel => exact ⟨j + 1, _, by omega, by go_num, by rw [HQ2.out]; exact R3, B3, K3⟩
          case measure => first | (simp [intOf]; done) | (simp [intOf]; omega)
        · have hje : j = B.length := by omega
          subst hje
          have HE : Hid ((i + 1) * B.length = i * B.length + B.length) := Lib.hid (Nat.succ_mul _ _)
          clear CM HSN
          go_wp2
          go_roundw
          case rel => exact ⟨i + 1, vs, by omega, by go_num, by rw [HE.out]; exact hr, hbw, hc⟩
          case measure => first | (simp [intOf]; done) | (simp [intOf]; omega)
    · have hie : i = A.length := by omega
      subst hie
      clear CM HSN
      go_wp2
      go_ret
      exact ⟨_, vs, rfl, hr.out, hbw.out⟩
end
section
open Go.RowKit
set_option linter.unusedVariables false
set_option linter.unusedSimpArgs false
theorem sum_small {A B : List Nd} (ha : ∀ nd ∈ A, nd.1.length ≤ 24 ∧ nd.2.length ≤ 24) (hb : ∀ nd ∈ B, nd.1.length ≤ 24 ∧ nd.2.length ≤ 24) : ∀ nd ∈ sumN A B, nd.1.length ≤ 1000 ∧ nd.2.length ≤ 1000 := fun nd hnd => by
  have := sumN_small ha hb nd hnd
  omega
set_option maxRecDepth 100000 in
set_option maxHeartbeats 2000000 in
theorem sumI_calls (va vb : Value) (f g h : List Nz) (ok : Bool) (hok : Hid (sumOk f g = ok)) (hv : Hid (sumV f g = h)) (w : World) (lo hi lo' hi' : Nat) (hh : hi ≤ w.heap.size) (hh' : hi' ≤ w.heap.size) (hva : NodesZ w lo hi va f) (hvb : NodesZ w lo' hi' vb g) :
    Calls Try.prog 9 #[.agg #[va], .agg #[vb]] w fun e w' => ∃ a c vs, e = .returned (.tuple #[.agg #[.slice a h.length c], .bool ok]) ∧ OwnF w' w.heap.size (.slice a h.length c) vs h ∧ Below w.heap.size w w' := by
  have HB0 := Lib.hid fun o o' o'' => show Below w.heap.size w (((w.alloc o).alloc o').alloc o'') from (((Below.refl _ _).alloc (Nat.le_refl _) _).alloc (by simp) _).alloc (by simp; omega) _
  obtain ⟨r, hr⟩ : ∃ r, pairB f g = r := ⟨_, rfl⟩
  have CG := Lib.hid fun (W : World) (hW : Below w.heap.size w W) => goodPair_calls va vb f g r (Lib.hid hr) W lo hi lo' hi' (Nat.le_trans hh hW.size) (Nat.le_trans hh' hW.size) (hva.below hW hh) (hvb.below hW hh')
  have HVA := Lib.hid fun (W : World) (hW : Below w.heap.size w W) => hva.below hW hh
  have HVB := Lib.hid fun (W : World) (hW : Below w.heap.size w W) => hvb.below hW hh'
  obtain ⟨aa, ca, rfl⟩ : ∃ ao c, va = .slice ao f.length c := by obtain ⟨ao, c, e, _⟩ := hva; exact ⟨ao, c, e⟩
  obtain ⟨ab, cb, rfl⟩ : ∃ ao c, vb = .slice ao g.length c := by obtain ⟨ao, c, e, _⟩ := hvb; exact ⟨ao, c, e⟩
  clear hva hvb
  go_enter Try.func9, Try.ntmps9
  go_wp2_with fail
  refine (CG.out _ (HB0.out _ _ _)).mono ?_
  rintro e w4 ⟨rfl, hb4⟩
  have k1 : w4.cell? ⟨w.heap.size, 0, none⟩ = some (.slice aa f.length ca) := (bcell hb4 _ _ (by simp; omega)).trans (by go_simp)
  have k2 : w4.cell? ⟨w.heap.size + 1, 0, none⟩ = some (.slice ab g.length cb) := (bcell hb4 _ _ (by first | (simp; done) | (simp; omega))).trans (by go_simp)
  obtain ⟨d0, z0⟩ : BoxAt w4 (w.heap.size + 1 + 1) (.slice none 0 0) := BoxAt.below ⟨by go_simp, by go_simp⟩ hb4
  have HB4 := Lib.hid (Below.trans (HB0.out _ _ _) (hb4.mono (by simp; omega)))
  have hlt := block_of_cell d0
  clear hb4 CG
  cases r with
  | false =>
    obtain rfl : h = [] := by rw [← hv.out, sumV_no hr]
    obtain rfl : ok = false := by rw [← hok.out, sumOk_no hr]
    have B4 := Lib.hid (HB4.out.setCell (p := ⟨w.heap.size + 1 + 1, 0, none⟩) (by show w.heap.size ≤ w.heap.size + 1 + 1; omega) (.slice none 0 0))
    have hcr := World.cell?_setCell_same w4 ⟨w.heap.size + 1 + 1, 0, none⟩ (.slice none 0 0) d0
    go_wp2_with fail
    exact bodyPost_ret (v := .tuple #[.agg #[.slice none 0 0], .bool false]) (by simp [results, Try.results9, go_sem, hcr]) rfl ⟨none, 0, [], rfl, OwnF.nil _ _, B4.out⟩
  | true =>
    obtain ⟨hp1, hp2, hp3⟩ := (pairB_iff f g).1 hr
    obtain ⟨eA, uA, sA, pA, lA, mA⟩ := good_parts hp1
    obtain ⟨eB, uB, sB, pB, lB, mB⟩ := good_parts hp2
    have nA : (f.map downN).length = f.length := by simp
    have nB : (g.map downN).length = g.length := by simp
    have CN := Lib.hid fun (W : World) (hW : Below w.heap.size w W) => sumNodes_calls (f.map downN) (g.map downN) aa ab ca cb W lo hi lo' hi' (Nat.le_trans hh hW.size) (Nat.le_trans hh' hW.size) (by rw [nA, eA]; exact HVA.out W hW) (by rw [nB, eB]; exact HVB.out W hW) (by omega) (by omega) uA uB mA mB
    have hpos : 0 < f.length * g.length := Nat.mul_pos pA pB
    have hlen : (sumN (f.map downN) (g.map downN)).length = f.length * g.length := by rw [sumN_len, nA, nB]
    have CF := Lib.hid fun (W : World) (v : Value) (hz : NodesZ W 0 W.heap.size v ((sumN (f.map downN) (g.map downN)).map upN)) => formOf_calls v (sumN (f.map downN) (g.map downN)) h ok W 0 W.heap.size (Nat.le_refl _) hz (sumN_under uA uB) (by rw [hlen]; exact hpos) (sumN_reach uA uB sA sB) (by rw [hlen]; omega) (sum_small mA mB) (Lib.hid (by rw [← sumOk_yes hr]; exact hok.out)) (Lib.hid (by rw [← sumV_yes hr]; exact hv.out))
    rw [nA, nB] at CN
    have HLN := Lib.hid hlen
    have HK : Hid (w4.cell? ⟨w.heap.size + 1 + 1, 0, none⟩ = some (.slice none 0 0) ∧ w4.frozen? ⟨w.heap.size + 1 + 1, 0, none⟩ = false) := Lib.hid ⟨d0, z0⟩
    clear eA uA sA eB uB sB mA mB hlen hok hv hr hp1 hp2 hpos nA nB
    go_wp2_with fail
    refine (CN.out _ HB4.out).mono ?_
    rintro e w5 ⟨gg, vs, rfl, hrow, hb5⟩
    have C2 := Lib.hid (CF.out w5 _ (hrow.nodesZ (by rw [List.length_map, HLN.out])))
    have HB5 := Lib.hid (HB4.out.trans (hb5.mono HB4.out.size))
    have hx5 : BoxAt w5 (w.heap.size + 1 + 1) (.slice none 0 0) := BoxAt.below ⟨d0, z0⟩ hb5
    have hs5 := HB5.out.size
    have hl5 := hb5.size
    clear hrow hb5 CN CF
    go_wp2_with fail
    refine C2.out.mono ?_
    rintro e w6 ⟨a, c, vs6, rfl, ho6, hb6⟩
    obtain ⟨d6, z6⟩ : BoxAt w6 (w.heap.size + 1 + 1) (.slice none 0 0) := BoxAt.below hx5 hb6
    have HO : Hid (OwnF (w6.setCell ⟨w.heap.size + 1 + 1, 0, none⟩ (.slice a h.length c)) w.heap.size (.slice a h.length c) vs6 h) := Lib.hid ((ho6.setCell (by show w.heap.size + 1 + 1 < w5.heap.size; omega)).mono hs5)
    have HB6 : Hid (Below w.heap.size w (w6.setCell ⟨w.heap.size + 1 + 1, 0, none⟩ (.slice a h.length c))) := Lib.hid ((HB5.out.trans (hb6.mono hs5)).setCell (by show w.heap.size ≤ w.heap.size + 1 + 1; omega) _)
    have hcr := World.cell?_setCell_same w6 ⟨w.heap.size + 1 + 1, 0, none⟩ (.slice a h.length c) d6
    clear ho6 hb6 hx5 C2
    go_wp2_with fail
    exact bodyPost_ret (v := .tuple #[.agg #[.slice a h.length c], .bool ok]) (by simp [results, Try.results9, go_sem, hcr]) rfl ⟨a, c, vs6, rfl, HO.out, HB6.out⟩
end
end

section
open Go.RowKit
set_option linter.unusedVariables false
set_option linter.unusedSimpArgs false
def NilPost (w : World) (e : Ending) (w' : World) : Prop := ∃ g vs, e = .returned (.agg #[.slice (some ⟨g, 0, none⟩) 1 1]) ∧ OwnF w' w.heap.size (.slice (some ⟨g, 0, none⟩) 1 1) vs [([], [])] ∧ Below w.heap.size w w'
set_option maxRecDepth 100000 in
theorem nothing_own (w : World) : Calls Try.prog 34 #[] w (NilPost w) := by
  obtain ⟨i0, hi0, hz0, hz1, hz2⟩ := info_parts infoNodeA
  have hb0 : Below w.heap.size w (w.alloc (.cells #[.slice none 0 0] 28)) := (Below.refl _ _).alloc (Nat.le_refl _) _
  have hx0 : BoxAt (w.alloc (.cells #[.slice none 0 0] 28)) w.heap.size (.slice none 0 0) := ⟨by go_simp, by go_simp⟩
  have hz : (w.alloc (.cells #[.slice none 0 0] 28)).heap.size = w.heap.size + 1 := by simp
  have HB0 := Lib.hid hb0
  have HX0 := Lib.hid hx0
  have HZ := Lib.hid hz
  clear hb0 hx0 hz
  go_enter Try.func34, Try.ntmps34
  go_wp2_with (at_make; refine wpList_make_full _ rfl _ _ 26 rfl (w.heap.size + 1) 57 i0 (.agg #[.slice none 0 0, .slice none 0 0]) 2 Try.underlying26 hi0 hz0 hz1 _ _ _ _ 1 rfl rfl (by first | rfl | (simp; done)) (by first | rfl | (simp; done)) (by rw [hz2]; omega) (by unfold maxLen; omega) (by simp) ?_; intro w1 hown hg; have hbg : Below _ _ w1 := (Below.refl _ _).grown hg (Nat.le_refl _) (fun k hk => by cases hk); obtain ⟨d1, z1⟩ := HX0.out.below hbg)
  rw [HZ.out] at hown
  have HB := Lib.hid ((HB0.out.trans (hbg.mono HB0.out.size)).setCell (p := ⟨w.heap.size, 0, none⟩) (Nat.le_refl _) (.slice (some ⟨w.heap.size + 1, 0, none⟩) 1 1))
  have HO := Lib.hid (((ownF_made hown).setCell (p := ⟨w.heap.size, 0, none⟩) (u := .slice (some ⟨w.heap.size + 1, 0, none⟩) 1 1) (by show w.heap.size < w.heap.size + 1; omega)).mono (base' := w.heap.size) (by omega))
  have hcr := World.cell?_setCell_same w1 ⟨w.heap.size, 0, none⟩ (.slice (some ⟨w.heap.size + 1, 0, none⟩) 1 1) d1
  clear hown hg hbg
  go_wp2_with fail
  exact bodyPost_ret (v := .agg #[.slice (some ⟨w.heap.size + 1, 0, none⟩) 1 1]) (by simp [results, Try.results34, go_sem, hcr]) rfl ⟨_, _, rfl, HO.out, HB.out⟩
end

section
set_option linter.unusedVariables false
set_option linter.unusedSimpArgs false
open Go.RowKit
theorem below_viaS {a W b : World} (h : Below a.heap.size a W) (g : Below W.heap.size W b) : Below a.heap.size a b := h.trans (g.mono h.size)
def SoPostI (w : World) (g : List Nz) (ok : Bool) (e : Ending) (w' : World) : Prop := ∃ a c vs, e = .returned (.tuple #[.agg #[.slice a g.length c], .bool ok]) ∧ OwnF w' w.heap.size (.slice a g.length c) vs g ∧ Below w.heap.size w w'
theorem soPostI_none {w w' : World} {e : Ending} (he : e = .returned (.tuple #[.agg #[.slice none 0 0], .bool false])) (hb : Below w.heap.size w w') : SoPostI w [] false e w' := ⟨none, 0, [], he, OwnF.nil _ _, hb⟩
set_option maxRecDepth 100000 in
set_option maxHeartbeats 4000000 in
theorem sumOfI_calls (v : Value) (Fs : List (List Nz)) (g : List Nz) (ok : Bool) (hok : Hid (soOk Fs = ok)) (hg : Hid (soV Fs = g)) (w : World) (lo hi : Nat) (hh : hi ≤ w.heap.size) (hv : FormsZ w lo hi v Fs) :
    Calls Try.prog 10 #[v] w (SoPostI w g ok) := by
  have HV := Lib.hid fun (W : World) (hW : Below w.heap.size w W) => hv.below hW hh
  obtain ⟨av, cv, rfl⟩ : ∃ a c, v = .slice a Fs.length c := by obtain ⟨a, c, e, _⟩ := hv; exact ⟨a, c, e⟩
  have hb0 : Below w.heap.size w (w.alloc (.cells #[.slice none 0 0] 28)) := (Below.refl _ _).alloc (Nat.le_refl _) _
  have hx0 : BoxAt (w.alloc (.cells #[.slice none 0 0] 28)) w.heap.size (.slice none 0 0) := ⟨by go_simp, by go_simp⟩
  have HB0 := Lib.hid hb0
  have HX0 := Lib.hid hx0
  by_cases hn : Fs.length ≤ 12
  case neg =>
    have hn2 : (12 : Int) < Fs.length := by omega
    obtain rfl : ok = false := by rw [← hok.out]; unfold soOk; rw [decide_eq_false hn]; rfl
    obtain rfl : g = [] := by rw [← hg.out, soV_no hok.out]
    clear hv HV hb0 hx0 HX0 hok hg
    go_enter Try.func10, Try.ntmps10
    go_wp2_with fail
    exact bodyPost_ret (v := .tuple #[.agg #[.slice none 0 0], .bool false]) (by simp [results, Try.results10, go_sem]) rfl (soPostI_none rfl HB0.out)
  have hn2 : ¬ (12 : Int) < Fs.length := by omega
  have C0 := Lib.hid (nothing_own (w.alloc (.cells #[.slice none 0 0] 28)))
  have HS2 : Hid (ok = (soF Fs).2) := Lib.hid (by rw [← hok.out]; unfold soOk; rw [decide_eq_true hn, Bool.true_and])
  have HS1 : Hid (g = if ok then (soF Fs).1 else []) := Lib.hid (by
    cases ho : ok with
    | false => rw [← hg.out, soV_no (by rw [hok.out, ho])]; rfl
    | true => rw [← hg.out, soV_yes (by rw [hok.out, ho])]; rfl)
  clear hv hb0 hx0 hok hg
  go_enter Try.func10, Try.ntmps10
  go_wp2_with fail
  refine C0.out.mono ?_
  rintro e w1 ⟨g0, vs0, rfl, hz0, hb1⟩
  have hL1 : Below w1.heap.size w1 (w1.alloc (.cells #[.slice (some ⟨g0, 0, none⟩) 1 1] 28)) := (Below.refl _ _).alloc (Nat.le_refl _) _
  have b1 := below_viaS hb1 hL1
  have HB1 := Lib.hid (below_viaS HB0.out b1)
  have HX1 := Lib.hid (HX0.out.below b1)
  have HS0 : Hid (BoxAt (w1.alloc (.cells #[.slice (some ⟨g0, 0, none⟩) 1 1] 28)) w1.heap.size (.slice (some ⟨g0, 0, none⟩) ((soF (Fs.take 0)).1).length 1)) := Lib.hid ⟨by rw [List.take_zero]; show World.cell? _ _ = some (.slice (some ⟨g0, 0, none⟩) 1 1); go_simp, by go_simp⟩
  have HO0 : Hid (OwnF (w1.alloc (.cells #[.slice (some ⟨g0, 0, none⟩) 1 1] 28)) (w.heap.size + 1) (.slice (some ⟨g0, 0, none⟩) ((soF (Fs.take 0)).1).length 1) vs0 ((soF (Fs.take 0)).1)) := Lib.hid (by rw [List.take_zero]; exact (hz0.below hL1).mono (by simp))
  have hz1 : w.heap.size < w1.heap.size := by have := hb1.size; simp at this; omega
  obtain ⟨B, hB⟩ : ∃ B, w1.heap.size = B := ⟨_, rfl⟩
  rw [hB] at HS0 hz1
  have HBE := Lib.hid hB
  clear hz0 hb1 hL1 b1 C0 HB0 HX0
  go_wp2
  go_loopw [16] (fun i wr => ∃ (k : Nat) (a : Option Addr) (c : Nat) (vs : List (Value × Value)), k ≤ Fs.length ∧ i = .int .i64 k ∧ Hid ((soF (Fs.take k)).2 = true) ∧ Hid (BoxAt wr B (.slice a ((soF (Fs.take k)).1).length c)) ∧ Hid (OwnF wr (w.heap.size + 1) (.slice a ((soF (Fs.take k)).1).length c) vs ((soF (Fs.take k)).1)) ∧
    Hid (BoxAt wr w.heap.size (.slice none 0 0)) ∧ Hid (Below w.heap.size w wr)) (fun i _ => Fs.length - (intOf i).toNat)
  case atStart => exact ⟨0, _, _, _, Nat.zero_le _, rfl, Lib.hid (by rw [List.take_zero]; rfl), HS0, HO0, HX1, HB1⟩
  case round =>
    obtain ⟨k, a, c, vs, hk, rfl, hyes, hbx, ho, hbr, hb⟩ := hrel
    clear HS0 HO0 HX1 HB1
    by_cases hlt : k < Fs.length
    · obtain ⟨f, hf⟩ := lt_get hlt
      obtain ⟨ao1, c1, e1, _, hnn⟩ := HV.out wr hb.out
      obtain ⟨b, off, vf, rfl, _, hbh, p1, i1⟩ := hnn k f hf
      obtain ⟨q1, q2, q3⟩ := slice_inj e1
      subst q1 q3
      clear q2 hnn e1
      obtain ⟨af, cf, hvf⟩ : ∃ a c, vf = .slice a f.length c := by obtain ⟨a, c, e, _⟩ := i1; exact ⟨a, c, e⟩
      subst hvf
      obtain ⟨r, hr⟩ : ∃ r, sumOk (soF (Fs.take k)).1 f = r := ⟨_, rfl⟩
      have HNX : Hid (r = true → soF (Fs.take (k + 1)) = (sumV (soF (Fs.take k)).1 f, true)) := Lib.hid (fun h => soF_yes hf hyes.out (by rw [hr]; exact h))
      have HNO : Hid (r = false → (soF Fs).2 = false) := Lib.hid (fun h => soF_no hf (by rw [hr]; exact h))
      obtain ⟨S, hS⟩ : ∃ S, (soF (Fs.take k)).1 = S := ⟨_, rfl⟩
      rw [hS] at hbx ho hr HNX
      obtain ⟨g2, hg2⟩ : ∃ g, sumV S f = g := ⟨_, rfl⟩
      rw [hg2] at HNX
      have hbs := hb.out.size
      have hBl := block_of_cell hbx.out.1
      have hal : Below wr.heap.size wr (wr.alloc (.cells #[.slice af f.length cf] 28)) := (Below.refl _ _).alloc (Nat.le_refl _) _
      have ka : (wr.alloc (.cells #[.slice af f.length cf] 28)).cell? ⟨B, 0, none⟩ = some (.slice a S.length c) := (bcell hal _ _ hBl).trans hbx.out.1
      have kb : (wr.alloc (.cells #[.slice af f.length cf] 28)).cell? ⟨wr.heap.size, 0, none⟩ = some (.slice af f.length cf) := by go_simp
      have hza : wr.heap.size < (wr.alloc (.cells #[.slice af f.length cf] 28)).heap.size := by simp
      have C := Lib.hid (sumI_calls (.slice a S.length c) (.slice af f.length cf) S f g2 r (Lib.hid hr) (Lib.hid hg2) (wr.alloc (.cells #[.slice af f.length cf] 28)) (w.heap.size + 1) _ lo hi (Nat.le_refl _) (by omega) (ho.out.below hal).nodesZ (i1.below hal (by omega)))
      have HAL := Lib.hid hal
      have k0 : (0 : Int) ≤ k := by omega
      have k1 : (k : Int) < Fs.length := by omega
      clear hf i1 hr hS hg2 hal
      go_wp2_with fail
      refine C.out.mono ?_
      rintro e w2 ⟨a2, c2, vs2, rfl, ho2, hb2⟩
      have hLn : Below w2.heap.size w2 (w2.alloc (.cells #[.slice a2 g2.length c2] 28)) := (Below.refl _ _).alloc (Nat.le_refl _) _
      have b2 := below_viaS (below_viaS HAL.out hb2) hLn
      have HB2 := Lib.hid (below_viaS hb.out b2)
      have HX2 := Lib.hid (hbr.out.below b2)
      obtain ⟨dB, zB⟩ := hbx.out.below b2
      have kn : (w2.alloc (.cells #[.slice a2 g2.length c2] 28)).cell? ⟨w2.heap.size, 0, none⟩ = some (.slice a2 g2.length c2) := by go_simp
      have HO2 := Lib.hid (ho2.below hLn)
      have s2 := hb2.size
      clear ho2 hb2 hLn b2 C HAL ka kb hbx ho hbr hb p1
      cases r with
      | false =>
        obtain rfl : ok = false := by rw [HS2.out]; exact HNO.out rfl
        obtain rfl : g = [] := by rw [HS1.out]; rfl
        obtain ⟨d1, z1⟩ := HX2.out
        have B4 := Lib.hid (HB2.out.setCell (p := ⟨w.heap.size, 0, none⟩) (Nat.le_refl _) (.slice none 0 0))
        have hcr := World.cell?_setCell_same (w2.alloc (.cells #[.slice a2 g2.length c2] 28)) ⟨w.heap.size, 0, none⟩ (.slice none 0 0) d1
        clear hyes HNX HNO
        go_wp2_with fail
        exact bodyPost_ret (v := .tuple #[.agg #[.slice none 0 0], .bool false]) (by simp [results, Try.results10, go_sem, hcr]) rfl (soPostI_none rfl B4.out)
      | true =>
        have hnx := HNX.out rfl
        have HY : Hid ((soF (Fs.take (k + 1))).2 = true) := Lib.hid (by rw [hnx])
        have HE : Hid ((soF (Fs.take (k + 1))).1 = g2) := Lib.hid (by rw [hnx])
        have O7 : Only (w2.alloc (.cells #[.slice a2 g2.length c2] 28)) ((w2.alloc (.cells #[.slice a2 g2.length c2] 28)).setCell ⟨B, 0, none⟩ (.slice a2 g2.length c2)) (fun b => b = B) := Only.of_set (F := fun b => b = B) (p := ⟨B, 0, none⟩) _ rfl
        have R1 : Hid (BoxAt ((w2.alloc (.cells #[.slice a2 g2.length c2] 28)).setCell ⟨B, 0, none⟩ (.slice a2 g2.length c2)) B (.slice a2 ((soF (Fs.take (k + 1))).1).length c2)) := Lib.hid (by rw [HE.out]; exact ⟨World.cell?_setCell_same _ _ _ dB, by rw [World.frozen?_setCell]; exact zB⟩)
        have R2 : Hid (OwnF ((w2.alloc (.cells #[.slice a2 g2.length c2] 28)).setCell ⟨B, 0, none⟩ (.slice a2 g2.length c2)) (w.heap.size + 1) (.slice a2 ((soF (Fs.take (k + 1))).1).length c2) vs2 ((soF (Fs.take (k + 1))).1)) := Lib.hid (by rw [HE.out]; exact (HO2.out.setCell (by show B < _; omega)).mono (by omega))
        have R3 := Lib.hid (HX2.out.only O7 (by omega))
        have R4 := Lib.hid (HB2.out.setCell (p := ⟨B, 0, none⟩) (by show w.heap.size ≤ B; omega) (.slice a2 g2.length c2))
        clear hnx HNX HNO HO2 HX2 HB2 O7 hyes
        go_wp2_with fail
        go_roundw
        case rel => exact ⟨k + 1, a2, c2, vs2, by omega, by go_num, HY, R1, R2, R3, R4⟩
        case measure => first | (simp [intOf]; done) | (simp [intOf]; omega)
    · have hke : k = Fs.length := by omega
      subst hke
      rw [List.take_length] at hyes hbx ho
      obtain rfl : ok = true := by rw [HS2.out]; exact hyes.out
      have hgS : g = (soF Fs).1 := HS1.out
      rw [← hgS] at hbx ho
      obtain ⟨d1, z1⟩ := hbr.out
      have hlt1 := block_of_cell d1
      have kB := hbx.out.1
      have HO3 : Hid (OwnF (wr.setCell ⟨w.heap.size, 0, none⟩ (.slice a g.length c)) w.heap.size (.slice a g.length c) vs g) := Lib.hid ((ho.out.setCell (by show w.heap.size < w.heap.size + 1; omega)).mono (by omega))
      have HB3 := Lib.hid (hb.out.setCell (p := ⟨w.heap.size, 0, none⟩) (Nat.le_refl _) (.slice a g.length c))
      have hcr := World.cell?_setCell_same wr ⟨w.heap.size, 0, none⟩ (.slice a g.length c) d1
      clear hyes hbx ho hbr hb hgS
      go_wp2_with fail
      exact bodyPost_ret (v := .tuple #[.agg #[.slice a g.length c], .bool true]) (by simp [results, Try.results10, go_sem, hcr]) rfl ⟨a, c, vs, rfl, HO3.out, HB3.out⟩
end

end Go.Proofs.Ytabfdaofikccmaa
