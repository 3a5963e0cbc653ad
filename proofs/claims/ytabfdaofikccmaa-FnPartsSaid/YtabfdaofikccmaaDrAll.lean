/- An append of a whole list of numbers, nil or not. -/
import Derived.Test.YtabfdaofikccmaaFmPartL
import Derived.Laws.AppendOwnNone
import Derived.Maps.AppendAt
import Derived.Lib.AppendZerosOnto
import Derived.Lib.SliceRun
import Derived.Deep.WholeRow
import Derived.Lib.Walk
import Derived.Test.YtabfdaofikccmaaCur
import Derived.Test.YtabfdaofikccmaaFmBk
import Derived.Test.YtabfdaofikccmaaFmAdd
import Derived.Test.YtabfdaofikccmaaFmGood
import Derived.Test.YtabfdaofikccmaaFmMarkN
import Derived.Test.YtabfdaofikccmaaFmLaw
import Derived.Test.YtabfdaofikccmaaFmToOwn
import Derived.Test.YtabfdaofikccmaaInOf
import Derived.Test.YtabfdaofikccmaaFmForm
namespace Go.Proofs.Ytabfdaofikccmaa
section
open Go.RowKit
set_option linter.unusedVariables false
set_option linter.unusedSimpArgs false
theorem add_addrC (b off j : Nat) : (⟨b, off, none⟩ : Addr).add j = ⟨b, off + j, none⟩ := by unfold Addr.add; split <;> simp_all
theorem run_append_nilC {P : Program} {w : World} (base : Nat) (t ty e : TypeId) (i : TypeInfo) (size : Nat) (ht : P.underlying t = some (.slice e)) (hi : P.info? e = some i)
    (v : Value) (n : Nat) (xs : List Value) (hown : w.ownsRow base e size v n xs) (c : Nat) :
    (Builtin.append_ #[t, t] ty #[v, .slice none 0 c]).run P w = .ok v w := by
  rcases hown.2 with ⟨rfl, rfl⟩ | ⟨g, cap, cur, rfl, _, _, hnc, _⟩
  · simp [Builtin.append_, run_underlying ht, sizeOf, typeInfo, hi, Builtin.lenOf, Builtin.firstCells]
  · simp [Builtin.append_, run_underlying ht, sizeOf, typeInfo, hi, Builtin.lenOf, Builtin.firstCells, hnc, storeCells]
set_option maxRecDepth 100000 in
/-- a list of numbers is appended -/
theorem run_append_ints (w : World) (base : Nat) (ty : TypeId) (v : Value) (n : Nat) (xs : List Value) (hown : w.ownsRow base 3 1 v n xs) (vs : Value) (l : List Int) (lo hi : Nat) (hz : IntsZ w lo hi vs l) (hsmall : n + l.length ≤ 3000000) (hbase : base ≤ w.heap.size) :
    ∃ v' w', (Builtin.append_ #[34, 34] ty #[v, vs]).run Try.prog w = .ok v' w' ∧ w'.ownsRow base 3 1 v' (n + l.length) (xs ++ l.map (Value.int .i64)) ∧ w.grownBy w' v.ownBlock ∧ (v'.ownBlock = v.ownBlock ∨ v'.ownBlock = some w.heap.size) := by
  obtain ⟨i0, hi0, hz0, hz1, hz2⟩ := info_parts infoIntA
  obtain ⟨ao, c, rfl, hc, hcell⟩ := hz
  cases ao with
  | none =>
    obtain rfl : l = [] := by
      cases l with
      | nil => rfl
      | cons x l =>
        obtain ⟨b, off, e, _⟩ := hcell 0 x rfl
        cases e
    refine ⟨v, w, run_append_nilC base 34 ty 3 i0 1 Try.underlying34 hi0 v n xs hown c, by simpa using hown, ⟨rfl, rfl, rfl, Nat.le_refl _, fun k _ hk => rfl⟩, Or.inl rfl⟩
  | some ad =>
    obtain ⟨v', w', hr, h2, h3, _, h5⟩ := run_append_own_at (P := Try.prog) w base 34 ty 3 i0 (.int .i64 0) 1 8 Try.underlying34 hi0 hz0 hz1 hz2 rfl (by decide) v n xs hown ad l.length c (l.map (Value.int .i64)) (by simp) (fun j u hj => by
      rw [List.getElem?_map] at hj
      cases hx : l[j]? with
      | none => rw [hx] at hj; cases hj
      | some x =>
        rw [hx] at hj
        simp only [Option.map_some, Option.some.injEq] at hj
        subst hj
        obtain ⟨b, off, e, _, _, hcx⟩ := hcell j x hx
        injection e with e
        subst e
        rw [add_addrC]
        exact hcx) (fun u hu => by obtain ⟨x, _, rfl⟩ := List.mem_map.1 hu; rfl) (by unfold maxLen; omega) (by omega) hbase
    exact ⟨v', w', hr, h2, h3, h5⟩
theorem wpList_append_ints {ops : Array Oper} {rest : List Oper} {o : Oper} {a : Act} {Q : Exit → Act → World → Prop} {w : World} (hgd : o.guard = none) (s x : Operand)
    (ho : o.op = .call { callee := .builtin .append, args := #[s, x], argTypes := #[34, 34] })
    {base : Nat} {v : Value} {n : Nat} {xs : List Value} (hs : a.eval s = v) (hown : w.ownsRow base 3 1 v n xs) {vs : Value} {l : List Int} (hx : a.eval x = vs) {lo hi : Nat} (hz : IntsZ w lo hi vs l) (hsmall : n + l.length ≤ 3000000) (hbase : base ≤ w.heap.size)
    (h : ∀ v' w', w'.ownsRow base 3 1 v' (n + l.length) (xs ++ l.map (Value.int .i64)) → w.grownBy w' v.ownBlock → (v'.ownBlock = v.ownBlock ∨ v'.ownBlock = some w.heap.size) → wpList Try.prog ops Q rest (a.put o.dst v') w') :
    wpList Try.prog ops Q (o :: rest) a w := by
  refine wpList_plain hgd fun K hK => ?_
  obtain ⟨v', w', hr, h2, h3, h5⟩ := run_append_ints w base o.type v n xs hown vs l lo hi hz hsmall hbase
  unfold Oper.wp execOp
  simp only [ho, resolve, invoke, builtin, Sem.run_bind, Sem.run_pure, Result.andThen_ok, List.map_toArray, List.map_cons, List.map_nil, hs, hx, hr]
  exact hK _ _ (h v' w' h2 h3 h5)
theorem step_app_ints {ops : Array Oper} {o : Oper} {a : Act} {w : World} {K : Act → World → Prop} {Q : Exit → Act → World → Prop} {E : Prop} (hgd : o.guard = none) (s x : Operand)
    (ho : o.op = .call { callee := .builtin .append, args := #[s, x], argTypes := #[34, 34] })
    {base : Nat} {v : Value} {n : Nat} {xs : List Value} (hown : w.ownsRow base 3 1 v n xs) (hs : a.eval s = v) {vs : Value} {l : List Int} {lo hi : Nat} (hz : IntsZ w lo hi vs l) (hx : a.eval x = vs)
    (hsmall : n + l.length ≤ 3000000) (hbase : base ≤ w.heap.size)
    (h : ∀ v' w', w'.ownsRow base 3 1 v' (n + l.length) (xs ++ l.map (Value.int .i64)) → w.grownBy w' v.ownBlock → (v'.ownBlock = v.ownBlock ∨ v'.ownBlock = some w.heap.size) → K (a.put o.dst v') w') :
    if Region.wanted o (yielded ops a.tmps) = true then Oper.wp Try.prog o a w K Q else E := by
  have hw : Region.wanted o (yielded ops a.tmps) = true := by simp [Region.wanted, hgd]
  rw [if_pos hw]
  obtain ⟨v', w', hr, h2, h3, h5⟩ := run_append_ints w base o.type v n xs hown vs l lo hi hz hsmall hbase
  unfold Oper.wp execOp
  simp only [ho, resolve, invoke, builtin, Sem.run_bind, Sem.run_pure, Result.andThen_ok, List.map_toArray, List.map_cons, List.map_nil, hs, hx, hr]
  exact h v' w' h2 h3 h5
end

section
open Go.RowKit
set_option linter.unusedVariables false
set_option linter.unusedSimpArgs false
/-- q is a cursor of the call's own over v, at most N bytes on; what was there before the call is as it was -/
def Cur (W0 w : World) (q : Nat) (v : Value) (N : Nat) : Prop := W0.heap.size ≤ q ∧ Below W0.heap.size W0 w ∧ ∃ a, a ≤ N ∧ CurIs w q v a
theorem gtrans {a b c : World} {row : Option Nat} (h : a.grownBy b row) (k : b.grownBy c row) : a.grownBy c row :=
  ⟨k.os.trans h.os, k.tape.trans h.tape, k.output.trans h.output, Nat.le_trans h.size k.size, fun i hi hne => (k.block i (Nat.lt_of_lt_of_le hi h.size) hne).trans (h.block i hi hne)⟩
theorem Cur.mono {W0 w : World} {q : Nat} {v : Value} {N M : Nat} (h : Cur W0 w q v N) (hNM : N ≤ M) : Cur W0 w q v M := by
  obtain ⟨h1, h2, a, h3, h4⟩ := h
  exact ⟨h1, h2, a, by omega, h4⟩
theorem Cur.lt {W0 w : World} {q : Nat} {v : Value} {N : Nat} (h : Cur W0 w q v N) : q < w.heap.size := by
  obtain ⟨_, _, a, _, s, hs⟩ := h
  rcases Nat.lt_or_ge q w.heap.size with h1 | h1
  · exact h1
  · rw [Array.getElem?_eq_none h1] at hs; cases hs
theorem Cur.grown {W0 w w' : World} {q : Nat} {v : Value} {N : Nat} {row : Option Nat} (h : Cur W0 w q v N) (hg : w.grownBy w' row) (hr : ∀ k, row = some k → W0.heap.size ≤ k) (hne : some q ≠ row) : Cur W0 w' q v N := by
  have hlt := h.lt
  obtain ⟨h1, h2, a, h3, s, hs⟩ := h
  exact ⟨h1, h2.grown hg h2.size hr, a, h3, s, (hg.block q hlt hne).trans hs⟩
theorem next_calls (W0 w : World) (q n N : Nat) (v : Value) (hc : CodeIn W0 v n) (hn : n ≤ 1000000) (h : Cur W0 w q v N) (hN : N ≤ 100000) :
    Calls Try.prog 60 #[.pointer (some ⟨q, 0, none⟩)] w fun e w' => (∃ r : Nat, r < 256 ∧ e = .returned (.int .i64 r)) ∧ Cur W0 w' q v (N + 1) ∧ w.grownBy w' (some q) := by
  have hlt := h.lt
  obtain ⟨h1, h2, a, h3, s, hs⟩ := h
  have key : ∀ e w', ((∃ r : Nat, r < 256 ∧ e = Ending.returned (.int .i64 r)) ∧ CurIs w' q v (a + 1) ∧ w.grownBy w' (some q)) → (∃ r : Nat, r < 256 ∧ e = Ending.returned (.int .i64 r)) ∧ Cur W0 w' q v (N + 1) ∧ w.grownBy w' (some q) := by
    rintro e w' ⟨k1, k2, k3⟩
    exact ⟨k1, ⟨h1, h2.grown k3 h2.size (fun k hk => by cases hk; exact h1), a + 1, by omega, k2⟩, k3⟩
  rcases hc.below h2 with ⟨ao, c, rfl, rfl⟩ | ⟨b, off, c, rfl, hp, hcell⟩
  · exact (next_out q a ao 0 c s w (by omega) (by omega) hs).mono key
  · by_cases ha : a < n
    · obtain ⟨x, hx, hxc⟩ := hcell a ha
      exact (next_in q b off c n a x s w ha hn hx hxc hs).mono key
    · exact (next_out q a _ n c s w (by omega) (by omega) hs).mono key
set_option maxHeartbeats 400000 in
theorem pick_calls (W0 w : World) (q n N m : Nat) (v : Value) (hc : CodeIn W0 v n) (hn : n ≤ 1000000) (h : Cur W0 w q v N) (hN : N ≤ 90000) (hm : 1 ≤ m) (hm2 : m ≤ 100000) :
    Calls Try.prog 27 #[.pointer (some ⟨q, 0, none⟩), .int .i64 m] w fun e w' => (∃ r : Nat, r < m ∧ e = .returned (.int .i64 r)) ∧ Cur W0 w' q v (N + 2) ∧ w.grownBy w' (some q) := by
  have H := Lib.hid h
  have HX : ∀ W M, M ≤ 100000 → Cur W0 W q v M → Hid (Calls Try.prog 60 #[.pointer (some ⟨q, 0, none⟩)] W fun e w' => (∃ r : Nat, r < 256 ∧ e = .returned (.int .i64 r)) ∧ Cur W0 w' q v (M + 1) ∧ W.grownBy w' (some q)) := fun W M hM hW => Lib.hid (next_calls W0 W q n M v hc hn hW hM)
  clear h hc hn
  by_cases h1 : m ≤ 1
  · obtain rfl : m = 1 := by omega
    go_enter Try.func27, Try.ntmps27
    go_wp2_with fail
    go_ret
    exact ⟨⟨0, by omega, rfl⟩, H.out.mono (by omega), World.grownBy.refl _ _⟩
  · by_cases h2 : 200 < m
    · go_enter Try.func27, Try.ntmps27
      go_wp2_with fail
      refine (HX w N (by omega) H.out).out.mono ?_
      rintro e w1 ⟨⟨r, hr, rfl⟩, hc1, hg1⟩
      have HC1 := Lib.hid hc1
      have HG1 := Lib.hid hg1
      clear hc1 hg1
      go_wp2_with fail
      refine (HX w1 (N + 1) (by omega) HC1.out).out.mono ?_
      rintro e w2 ⟨⟨r2, hr2, rfl⟩, hc2, hg2⟩
      have HC2 := Lib.hid hc2
      have HG2 := Lib.hid (gtrans HG1.out hg2)
      clear hc2 hg2
      go_wp2_with fail
      go_ret
      exact ⟨⟨(r * 256 + r2) % m, Nat.mod_lt _ (by omega), ret_int (by simp)⟩, HC2.out, HG2.out⟩
    · go_enter Try.func27, Try.ntmps27
      go_wp2_with fail
      refine (HX w N (by omega) H.out).out.mono ?_
      rintro e w1 ⟨⟨r, hr, rfl⟩, hc1, hg1⟩
      have HC1 := Lib.hid hc1
      have HG1 := Lib.hid hg1
      clear hc1 hg1
      go_wp2_with fail
      go_ret
      exact ⟨⟨r % m, Nat.mod_lt _ (by omega), ret_int (by omega)⟩, HC1.out.mono (by omega), HG1.out⟩
set_option maxHeartbeats 400000 in
theorem one_calls (W0 w : World) (q n N m : Nat) (v : Value) (hc : CodeIn W0 v n) (hn : n ≤ 1000000) (h : Cur W0 w q v N) (hN : N ≤ 90000) (hm : 1 ≤ m) (hm2 : m ≤ 100000) :
    Calls Try.prog 29 #[.pointer (some ⟨q, 0, none⟩), .int .i64 m] w fun e w' => (∃ b : Bool, e = .returned (.bool b)) ∧ Cur W0 w' q v (N + 2) ∧ w.grownBy w' (some q) := by
  have HP := Lib.hid (pick_calls W0 w q n N m v hc hn h hN hm hm2)
  clear h hc hn
  go_enter Try.func29, Try.ntmps29
  go_wp2_with fail
  refine HP.out.mono ?_
  rintro e w1 ⟨⟨r, hr, rfl⟩, hc1, hg1⟩
  have HC1 := Lib.hid hc1
  have HG1 := Lib.hid hg1
  clear hc1 hg1
  go_wp2_with fail
  go_ret
  exact ⟨⟨_, rfl⟩, HC1.out, HG1.out⟩
/-- the cursor that a draw makes -/
theorem cur_new (w : World) (v : Value) : Cur w (w.alloc (.cells #[v, .int .i64 0, .int .u64 0] 52)) w.heap.size v 0 :=
  ⟨Nat.le_refl _, (Below.refl _ _).alloc (Nat.le_refl _) _, 0, Nat.le_refl _, 0, heap_alloc_new w _⟩
/-- block g begins with these numbers -/
def IntsAt (w : World) (g : Nat) (l : List Int) : Prop := ∀ j x, l[j]? = some x → w.cell? ⟨g, j, none⟩ = some (.int .i64 x)
set_option maxHeartbeats 400000 in
theorem among_calls (W0 w : World) (q n N g c : Nat) (v : Value) (l : List Int) (hc : CodeIn W0 v n) (hn : n ≤ 1000000) (h : Cur W0 w q v N) (hN : N ≤ 90000) (hl : 1 ≤ l.length) (hl2 : l.length ≤ 100000) (hs : IntsAt w g l) (hgq : g ≠ q) :
    Calls Try.prog 64 #[.pointer (some ⟨q, 0, none⟩), .slice (some ⟨g, 0, none⟩) l.length c] w fun e w' => (∃ x ∈ l, e = .returned (.int .i64 x)) ∧ Cur W0 w' q v (N + 2) ∧ w.grownBy w' (some q) := by
  have HP := Lib.hid (pick_calls W0 w q n N l.length v hc hn h hN hl hl2)
  have HS := Lib.hid hs
  clear h hc hn hs
  go_enter Try.func64, Try.ntmps64
  go_wp2_with fail
  refine HP.out.mono ?_
  rintro e w1 ⟨⟨r, hr, rfl⟩, hc1, hg1⟩
  have hx := HS.out r l[r] (List.getElem?_eq_getElem hr)
  have hxc : w1.cell? ⟨g, r, none⟩ = some (.int .i64 l[r]) := hg1.cell hx (by simpa using hgq)
  have hmem : Hid (l[r] ∈ l) := Lib.hid (List.getElem_mem hr)
  generalize l[r] = x at hxc hmem
  have HC1 := Lib.hid hc1
  have HG1 := Lib.hid hg1
  have b0 : (0 : Int) ≤ r := by omega
  have b1 : (r : Int) < l.length := by omega
  clear hc1 hg1 hx
  go_wp2_with fail
  go_ret
  exact ⟨⟨x, hmem.out, rfl⟩, HC1.out, HG1.out⟩
theorem Cur.only {W0 w w' : World} {q : Nat} {v : Value} {N : Nat} {F : Nat → Prop} (h : Cur W0 w q v N) (ho : Only w w' F) (hF : ∀ g, F g → W0.heap.size ≤ g) (hne : ¬ F q) : Cur W0 w' q v N := by
  have hlt := h.lt
  obtain ⟨h1, h2, a, h3, s, hs⟩ := h
  exact ⟨h1, h2.trans (ho.below h2.size hF), a, h3, s, (ho.block q hlt hne).trans hs⟩
theorem Cur.below {W0 w w' : World} {q : Nat} {v : Value} {N : Nat} (h : Cur W0 w q v N) (hb : Below w.heap.size w w') : Cur W0 w' q v N :=
  h.only (Only.of_below (F := fun _ => False) hb) (fun _ h => h.elim) id
theorem only_cur {w w' : World} {q : Nat} (hg : w.grownBy w' (some q)) : Only w w' (fun b => b = q) := Only.of_grown hg (fun g e => by injection e with e; exact e.symm)
end

section
set_option linter.unusedVariables false
set_option linter.unusedSimpArgs false
open Go.RowKit
set_option maxRecDepth 100000 in
set_option maxHeartbeats 8000000 in
theorem add_callsX (X : Nat → Prop) (base B : Nat) (ns : List Nd) (vn0 vb0 : Value) (vs0 : List (Value × Value)) (vf : Value) (f : List Nd) (w : World) (lo hi : Nat) (hh : hi ≤ base)
    (hX : ∀ g, X g → g < w.heap.size) (hFX : ∀ g, Foot B vn0 vb0 g → ¬ X g) (h : Bk base w B ns (bornsOf ns) vn0 vb0 vs0 X) (hbk : Book ns) (hv : NodesZ w lo hi vf (f.map upN)) (hf : Under f) (hn : ns.length + f.length ≤ 90000) (hl : ∀ nd ∈ f, nd.1.length ≤ 90000 ∧ nd.2.length ≤ 90000) :
    Calls Try.prog 99 #[.pointer (some ⟨B, 0, none⟩), .agg #[vf]] w fun e w' => ∃ g c vn vb vs, e = .returned (.slice (some ⟨g, 0, none⟩) f.length c) ∧ IntsZ w' w.heap.size w'.heap.size (.slice (some ⟨g, 0, none⟩) f.length c) (upL (addF ns f).2) ∧
      Bk base w' B (addF ns f).1 (bornsOf (addF ns f).1) vn vb vs X ∧ Only w w' (Foot B vn0 vb0) ∧ ∀ x, x < w.heap.size → Foot B vn vb x → Foot B vn0 vb0 x := by
  have HK0 := Lib.hid h
  have HV := Lib.hid hv
  have HF := Lib.hid hf
  have HL := Lib.hid hl
  have HAD := Lib.hid fun k => addF_added ns hbk (f.take k) (under_take hf k)
  have HFL := Lib.hid h.lt
  have HXX := Lib.hid hX
  have HFX := Lib.hid hFX
  have hbase : base ≤ w.heap.size := by have := h.lt B (Or.inl rfl); omega
  obtain ⟨aof, cof, rfl, _, _⟩ := hv
  rw [List.length_map] at HV ⊢
  clear hl hf hbk h hX hFX
  have HB0 : Hid (Below w.heap.size w ((w.alloc (.cells #[.slice aof f.length cof] 28)).alloc (.cells #[] 3))) := Lib.hid (((Below.refl _ _).alloc (Nat.le_refl _) _).alloc (by simp) _)
  have HO0 : Hid (((w.alloc (.cells #[.slice aof f.length cof] 28)).alloc (.cells #[] 3)).ownsRow base 3 1 (.slice (some ⟨w.heap.size + 1, 0, none⟩) 0 0) 0 []) := Lib.hid (by
    have h := World.ownsRow_lit (base := base) (e := 3) (size := 1) (w.alloc (.cells #[.slice aof f.length cof] 28)) #[] 0 (by simp; omega) (by unfold maxLen; omega) rfl
    rw [show (w.alloc (.cells #[.slice aof f.length cof] 28)).heap.size = w.heap.size + 1 from by simp] at h
    exact h)
  go_enter Try.func99, Try.ntmps99
  go_wp2
  go_loopw [5, 6] (fun q i wr => ∃ (k ga ca : Nat) (vn vb : Value) (vs : List (Value × Value)), k ≤ f.length ∧ i = .int .i64 k ∧ q = .slice (some ⟨ga, 0, none⟩) k ca ∧ Hid (Bk base wr B (addF ns (f.take k)).1 (bornsOf (addF ns (f.take k)).1) vn vb vs (fun g => g = ga ∨ X g)) ∧
      Hid (wr.ownsRow base 3 1 (.slice (some ⟨ga, 0, none⟩) k ca) k ((addF ns (f.take k)).2.map iv)) ∧ w.heap.size < ga ∧ Hid (¬ Foot B vn vb ga) ∧ Hid (∀ g, g < w.heap.size + 1 → Foot B vn vb g → Foot B vn0 vb0 g) ∧ Hid (Only w wr (Foot B vn0 vb0)) ∧ wr.cell? ⟨w.heap.size, 0, none⟩ = some (.slice aof f.length cof)) (fun _ i _ => f.length - (intOf i).toNat)
  case atStart =>
    refine ⟨0, w.heap.size + 1, 0, vn0, vb0, vs0, Nat.zero_le _, rfl, rfl, Lib.hid ?_, Lib.hid ?_, by omega, Lib.hid (fun hF => by have := (HFL.out _ hF).2; omega), Lib.hid (fun _ _ hF => hF), Lib.hid (Only.of_below HB0.out), by go_simp⟩
    · have h1 : Bk base w B ns (bornsOf ns) vn0 vb0 vs0 (fun g => g = w.heap.size + 1 ∨ X g) := HK0.out.reX (fun g hg e => e.resolve_left (by omega))
      simpa [addF] using h1.below HB0.out
    · simpa [addF] using HO0.out
  case round =>
    obtain ⟨k, ga, ca, vn, vb, vs, hk, rfl, rfl, hK, hown, hga, hnf, hft, ho, hbox⟩ := hrel
    by_cases hlt : k < f.length
    · obtain ⟨nd, hx⟩ := lt_get hlt
      have hadd := addF_take ns f k nd hx
      have had := HAD.out k
      have hlen := addF_len ns (f.take k)
      obtain ⟨ao1, c1, e1, _, hnn⟩ := (HV.out.below (ho.out.below hbase (fun g hg => (HFL.out g hg).1)) hh)
      obtain ⟨b, off, v1, v2, hao, _, hbhi, p1, p2, i1, i2⟩ := hnn k (upN nd) (by rw [List.getElem?_map, hx]; rfl)
      obtain ⟨q1, q2, q3⟩ := slice_inj e1
      rw [hao] at q1
      subst q1
      clear q2 q3 e1 hnn
      obtain ⟨hAl, hAI⟩ := own_intsA hown.out (by omega)
      have hnd := HL.out nd (List.mem_of_getElem? hx)
      have hux := HF.out k nd hx
      have hgaw : ga < wr.heap.size := (World.ownsRow.lt hown.out _ rfl).2
      have hos := ho.out.size
      generalize hC : (addF ns (f.take k)).1 = C at hK had hlen hadd
      generalize hA : (addF ns (f.take k)).2 = A at hown had hlen hadd hAl hAI
      have hAC : ∀ x, x < k → A.getD x 0 < C.length := fun x hxk => by
        obtain ⟨n0, hn0⟩ := lt_get (l := f.take k) (i := x) (by simp; omega)
        exact get_lt (had.node x n0 hn0)
      have hCu := had.book.struct.under
      have hCl : C.length ≤ 90000 := by have := hlen.2; simp at this; omega
      have hwr : base ≤ wr.heap.size := by omega
      have C1 := Lib.hid fun (W : World) (hW : Below wr.heap.size wr W) => l3At_calls (.slice (some ⟨ga, 0, none⟩) k ca) v1 A nd.1 W ga (ga + 1) lo hi (by have := hW.size; omega) (by have := hW.size; omega) (hAI.below hW (by omega)) (i1.below hW (by omega)) (by omega) (fun x hx => by rw [hAl]; exact hux x (Or.inl hx))
      have C2 := Lib.hid fun (W : World) (hW : Below wr.heap.size wr W) => l3At_calls (.slice (some ⟨ga, 0, none⟩) k ca) v2 A nd.2 W ga (ga + 1) lo hi (by have := hW.size; omega) (by have := hW.size; omega) (hAI.below hW (by omega)) (i2.below hW (by omega)) (by omega) (fun x hx => by rw [hAl]; exact hux x (Or.inr hx))
      have C3 := Lib.hid fun (W : World) (hW : Below wr.heap.size wr W) (vl vr : Value) (l1 h1 l2 h2 : Nat) (hh1 : h1 ≤ W.heap.size) (hh2 : h2 ≤ W.heap.size) (hvl : IntsZ W l1 h1 vl (upL (nd.1.map (fun x => A.getD x 0)))) (hvr : IntsZ W l2 h2 vr (upL (nd.2.map (fun x => A.getD x 0)))) =>
        put_calls base B C vn vb vs (fun g => g = ga ∨ X g) vl vr (nd.1.map (fun x => A.getD x 0)) (nd.2.map (fun x => A.getD x 0)) W l1 h1 l2 h2 hh1 hh2 (hK.out.below hW) (fun g e => by have := hW.size; rcases e with e | e <;> first | omega | (have := HXX.out g e; omega)) hCu hvl hvr
          (fun y hy => by obtain ⟨x, hx, rfl⟩ := List.mem_map.1 hy; exact hAC x (hux x (Or.inl hx))) (fun y hy => by obtain ⟨x, hx, rfl⟩ := List.mem_map.1 hy; exact hAC x (hux x (Or.inr hx))) (by omega) (by simp; omega) (by simp; omega)
      generalize seat C (sortd (nd.1.map (fun x => A.getD x 0)), sortd (nd.2.map (fun x => A.getD x 0))) = su at C3 hadd
      generalize bookPut C (sortd (nd.1.map (fun x => A.getD x 0)), sortd (nd.2.map (fun x => A.getD x 0))) = Cp at C3 hadd
      have HOW := Lib.hid fun (W : World) (hW : Below wr.heap.size wr W) => own_only hown.out (Only.of_below (F := fun _ => False) hW) (fun _ _ => id)
      have HFK := Lib.hid hK.out.lt
      have HADD := Lib.hid hadd
      have hS0 : AddS w.heap.size b (off + k * 2) (.slice (some ⟨b, off, none⟩) f.length cof) v1 v2 wr.drew := ⟨hbox, p1, p2⟩
      have HBX := Lib.hid hbox
      have nb0 : Hid (¬ Foot B vn vb w.heap.size) := Lib.hid (fun hF => by have := hft.out _ (by omega) hF; have := (HFL.out _ this).2; omega)
      have nb1 : Hid (¬ Foot B vn vb b) := Lib.hid (fun hF => by have := (HFK.out _ hF).1; omega)
      have hbd : Hid (Below wr.heap.size wr wr.drew) := Lib.hid (below_drewN (Below.refl _ _) 1)
      clear hAI i1 i2 hadd had hlen p1 p2 hAC
      have b0 : (0 : Int) ≤ k := by omega
      have b1 : (k : Int) < f.length := by omega
      go_wp2
      go_region_held3 (fun w' : World => w'.cell? ⟨w.heap.size, 0, none⟩ = some (.slice (some ⟨b, off, none⟩) f.length cof) ∧ w'.cell? ⟨b, off + k * 2, none⟩ = some v1 ∧ w'.cell? ⟨b, off + k * 2 + 1, none⟩ = some v2) (first | exact hS0 | (go_split_ands; exact ⟨‹_›, ‹_›, ‹_›⟩) | (go_split_ands; exact addS_only HAPP.out (by omega) (by omega) ⟨‹_›, ‹_›, ‹_›⟩) | (go_split_ands; exact addS_below ((Below.refl _ _).alloc (Nat.le_refl _) _) ⟨‹_›, ‹_›, ‹_›⟩) | (go_split_ands; exact addS_only ho6 nb0.out nb1.out ⟨‹_›, ‹_›, ‹_›⟩) | (go_split_ands; exact addS_below hb5 ⟨‹_›, ‹_›, ‹_›⟩) | (go_split_ands; exact addS_below hb4 ⟨‹_›, ‹_›, ‹_›⟩)) (first | (go_at_call 88; (with_reducible refine (C3.out w5 HB5 _ _ _ _ _ _ (Nat.le_refl _) (Nat.le_refl _) (hi1.below hb5 (Nat.le_refl _) |>.wide (Nat.le_refl _) hb5.size) hi2).mono ?_); rintro e w6 ⟨rfl, vn', vb', vs', hK6, ho6, hf6⟩) | (go_at_call 97; (with_reducible refine (C1.out _ hbd.out).mono ?_); rintro e w4 ⟨g1, c1, rfl, hi1, hg1, hg1', hb4⟩; have HB4 : Below wr.heap.size wr w4 := Below.trans hbd.out hb4) | (go_at_call 97; (with_reducible refine (C2.out w4 HB4).mono ?_); rintro e w5 ⟨g2, c2, rfl, hi2, hg2, hg2', hb5⟩; have HB5 : Below wr.heap.size wr w5 := HB4.trans (hb5.mono HB4.size); have HO6 := HOW.out w5 HB5) | (refine step_app_at rfl _ _ rfl (World.ownsRow.alloc (own_only HO6 ho6 (fun g e => by injection e with e; subst e; exact hnf.out)) _) rfl (B := w6.heap.size) (u := su) (by go_simp) rfl (by omega) (by simp; have := ho6.size; have := HB5.size; omega) ?_; intro v7 w7 hown7 hgrow7 hat7; have HAPP : Hid (Only _ w7 (fun g => g = ga)) := Lib.hid (Only.of_grown hgrow7 (fun g e => by injection e with e; exact e.symm))))
      all_goals
        obtain ⟨g7, c7, rfl, _, hg7h⟩ := hown7.form (by omega)
        have HK7a := hK6.below ((Below.refl w6.heap.size w6).alloc (Nat.le_refl _) (.cells #[.int .i64 (su : Int)] 3))
        have hz6 : (w6.alloc (.cells #[.int .i64 (su : Int)] 3)).heap.size = w6.heap.size + 1 := by simp
        have hz5 := HB5.size
        have hs6 := ho6.size
        have hgaF : ¬ Foot B vn' vb' ga := fun hF => hnf.out (hf6 ga (by omega) hF)
        have hat : g7 = ga ∨ g7 = w6.heap.size + 1 := by
          rcases hat7 with e | e
          · left; injection e
          · right; rw [hz6] at e; injection e
        have HFX7 : ∀ g, Foot B vn' vb' g → ¬ X g := fun g hF hx => by
          have h1 := HXX.out g hx
          exact HFX.out g (hft.out g (by omega) (hf6 g (by omega) hF)) hx
        have HK7b := (HK7a.reX (Y := fun g => (g = ga ∨ g = w6.heap.size + 1) ∨ X g) (fun g hg e => by
          rcases e with (e | e) | e
          · exact Or.inl e
          · rw [hz6] at hg; omega
          · exact Or.inr e)).only (HAPP.out.mono (fun i _ e => Or.inl (Or.inl e))) (fun g hF e => by
          rcases e with (e | e) | e
          · exact hgaF (e ▸ hF)
          · have := (HK7a.lt g hF).2; rw [hz6] at this; omega
          · exact HFX7 g hF e)
        have HK7 : Hid (Bk base w7 B Cp (bornsOf Cp) vn' vb' vs' (fun g => g = g7 ∨ X g)) := Lib.hid (HK7b.reX (fun g _ e => e.imp (fun e => by subst e; exact hat) id))
        have HNF7 : Hid (¬ Foot B vn' vb' g7) := Lib.hid (fun hF => by
          rcases hat with e | e
          · exact hgaF (e ▸ hF)
          · have := (HK7a.lt g7 hF).2; rw [hz6] at this; omega)
        have OT : Only wr w7 (fun g => Foot B vn vb g ∨ g = ga) :=
          (((Only.of_below (F := fun g => Foot B vn vb g ∨ g = ga) HB5).trans ho6 (fun i _ h => Or.inl h)).trans (Only.of_below (F := fun g => Foot B vn vb g ∨ g = ga) ((Below.refl w6.heap.size w6).alloc (Nat.le_refl _) (.cells #[.int .i64 (su : Int)] 3))) (fun i _ h => h)).trans HAPP.out (fun i _ h => Or.inr h)
        have HO7 : Hid (Only w w7 (Foot B vn0 vb0)) := Lib.hid (ho.out.trans OT (fun i hi h => by
          rcases h with h | h
          · exact hft.out i (by omega) h
          · omega))
        have HFT7 : Hid (∀ g, g < w.heap.size + 1 → Foot B vn' vb' g → Foot B vn0 vb0 g) := Lib.hid (fun g hg hF => hft.out g hg (hf6 g (by omega) hF))
        have HBX7 : Hid (w7.cell? ⟨w.heap.size, 0, none⟩ = some (.slice (some ⟨b, off, none⟩) f.length cof)) := Lib.hid ((OT.cell (block_of_cell HBX.out) (fun h => by
          rcases h with h | h
          · exact nb0.out h
          · omega)).trans HBX.out)
        have HOWN : Hid (w7.ownsRow base 3 1 (.slice (some ⟨g7, 0, none⟩) (k + 1) c7) (k + 1) ((A ++ [su]).map iv)) := Lib.hid (by rw [List.map_append]; exact hown7)
        have hg7 : w.heap.size < g7 := by omega
        clear hown7 hgrow7 hat7 HAPP OT HK7a HK7b hz6 hK6 ho6 hf6 hat hgaF HFX7
        go_wp2
        go_roundw
        case rel => exact ⟨k + 1, g7, c7, vn', vb', vs', by omega, by go_num, rfl, by rw [HADD.out]; exact HK7, by rw [HADD.out]; exact HOWN, hg7, HNF7, HFT7, HO7, HBX7.out⟩
        case measure => simp [intOf]; omega
    · have hke : f.take k = f := List.take_of_length_le (by omega)
      have hkl : k = f.length := by omega
      subst hkl
      rw [hke] at hK hown
      obtain ⟨_, hAI⟩ := own_intsA hown.out (by omega)
      have hgaw : ga < wr.heap.size := (World.ownsRow.lt hown.out _ rfl).2
      have HI := Lib.hid (hAI.wide (lo' := w.heap.size) (hi' := wr.heap.size) (by omega) (by omega))
      have HKE := Lib.hid (hK.out.reX (Y := X) (fun _ _ h => Or.inr h))
      have HFE : Hid (∀ x, x < w.heap.size → Foot B vn vb x → Foot B vn0 vb0 x) := Lib.hid (fun x hx => hft.out x (by omega))
      clear hAI hK hown hke
      go_wp2
      go_ret
      exact ⟨ga, ca, vn, vb, vs, rfl, HI.out, HKE.out, ho.out, HFE.out⟩
set_option maxHeartbeats 1000000 in
theorem root_callsX (X : Nat → Prop) (base B : Nat) (ns : List Nd) (vn0 vb0 : Value) (vs0 : List (Value × Value)) (vf : Value) (f : List Nd) (w : World) (lo hi : Nat) (hh : hi ≤ base)
    (hX : ∀ g, X g → g < w.heap.size) (hFX : ∀ g, Foot B vn0 vb0 g → ¬ X g) (h : Bk base w B ns (bornsOf ns) vn0 vb0 vs0 X) (hbk : Book ns) (hv : NodesZ w lo hi vf (f.map upN)) (hf : Under f) (h0 : 0 < f.length) (hn : ns.length + f.length ≤ 90000) (hl : ∀ nd ∈ f, nd.1.length ≤ 90000 ∧ nd.2.length ≤ 90000) :
    Calls Try.prog 76 #[.pointer (some ⟨B, 0, none⟩), .agg #[vf]] w fun e w' => e = .returned (.int .i64 ((addF ns f).2.getD (f.length - 1) 0 : Nat)) ∧ ∃ vn vb vs,
      Bk base w' B (addF ns f).1 (bornsOf (addF ns f).1) vn vb vs X ∧ Only w w' (Foot B vn0 vb0) ∧ ∀ x, x < w.heap.size → Foot B vn vb x → Foot B vn0 vb0 x := by
  have hbase : base ≤ w.heap.size := by have := h.lt B (Or.inl rfl); omega
  have C := Lib.hid fun (W : World) (hW : Below w.heap.size w W) => add_callsX X base B ns vn0 vb0 vs0 vf f W lo hi hh (fun g hg => Nat.lt_of_lt_of_le (hX g hg) hW.size) hFX (h.below hW) hbk (hv.below hW (by omega)) hf hn hl
  have hfl := (addF_len ns f).1
  obtain ⟨y, hy⟩ := lt_get (l := (addF ns f).2) (i := f.length - 1) (by omega)
  have HY : Hid ((addF ns f).2.getD (f.length - 1) 0 = y) := Lib.hid (by rw [List.getD_eq_getElem?_getD, hy]; rfl)
  have HYY := Lib.hid hy
  have hB1 : Hid (Below w.heap.size w (w.alloc (.cells #[vf] 28))) := Lib.hid ((Below.refl _ _).alloc (Nat.le_refl _) _)
  have hw1 : IntKind.i64.wrap ((f.length : Int) - 1) = (f.length : Int) - 1 := IntWalk.i64_in _ (by omega)
  have hw2 : (0 : Int) ≤ (f.length : Int) - 1 := by omega
  have hw3 : (f.length : Int) - 1 < f.length := by omega
  have hw4 : ((f.length : Int) - 1).toNat = f.length - 1 := by omega
  clear h hv hbk hf hl hfl hy hX hFX
  go_enter Try.func76, Try.ntmps76
  go_wp2_with fail
  refine (C.out _ hB1.out).mono ?_
  rintro e w4 ⟨g, c, vn, vb, vs, rfl, hi4, hK4, ho4, hf4⟩
  have hsz4 := ho4.size
  obtain ⟨ao, c', e', _, hcc⟩ := hi4
  obtain ⟨bb, oo, hao, _, _, hcell⟩ := hcc (f.length - 1) (y : Int) (by unfold upL; rw [List.getElem?_map, HYY.out]; rfl)
  obtain ⟨q1, q2, q3⟩ := slice_inj e'
  rw [← q1] at hao
  injection hao with hao
  injection hao with h1 h2
  subst h1 h2
  rw [Nat.zero_add] at hcell
  have HK := Lib.hid hK4
  have HO : Hid (Only w w4 (Foot B vn0 vb0)) := Lib.hid ((Only.of_below (F := Foot B vn0 vb0) hB1.out).trans ho4 (fun _ _ h => h))
  have HFF : Hid (∀ x, x < w.heap.size → Foot B vn vb x → Foot B vn0 vb0 x) := Lib.hid (fun x hx => hf4 x (by simp; omega))
  clear hcc q1 q2 q3 e' hK4 ho4 hf4 hsz4
  go_wp2
  go_ret
  exact ⟨ret_int (by rw [HY.out]), vn, vb, vs, HK.out, HO.out, HFF.out⟩
end

section
set_option linter.unusedVariables false
set_option linter.unusedSimpArgs false
def shD (n : Nat) (f : List Nd) : List Nd := f.map fun nd => (nd.1.map (· + n), nd.2.map (· + n))
theorem shD_len (n : Nat) (f : List Nd) : (shD n f).length = f.length := by simp [shD]
theorem shD_snoc (n : Nat) (f : List Nd) (nd : Nd) : shD n (f ++ [nd]) = shD n f ++ [(nd.1.map (· + n), nd.2.map (· + n))] := by simp [shD]
theorem shD_at {n k : Nat} {f : List Nd} {nd : Nd} (h : f[k]? = some nd) : (shD n f)[k]? = some (nd.1.map (· + n), nd.2.map (· + n)) := by unfold shD; rw [List.getElem?_map, h]; rfl
theorem shD_get {n k : Nat} {f : List Nd} {nd : Nd} (h : (shD n f)[k]? = some nd) : ∃ x, f[k]? = some x ∧ nd = (x.1.map (· + n), x.2.map (· + n)) := by
  unfold shD at h
  rw [List.getElem?_map] at h
  cases hx : f[k]? with
  | none => rw [hx] at h; cases h
  | some x => rw [hx] at h; simp only [Option.map_some, Option.some.injEq] at h; exact ⟨x, rfl, h.symm⟩
theorem at_lenP (B f : List Nd) : (addF B f).2.length = f.length := by
  induction f using snocInd with
  | nil => rfl
  | snoc f nd ih => rw [addF_snoc]; simp [ih]
theorem getD_right (A C : List Nat) (x : Nat) : (A ++ C).getD (x + A.length) 0 = C.getD x 0 := by
  rw [List.getD_eq_getElem?_getD, List.getD_eq_getElem?_getD, List.getElem?_append_right (by omega), Nat.add_sub_cancel]
theorem getD_left (A C : List Nat) (x : Nat) (h : x < A.length) : (A ++ C).getD x 0 = A.getD x 0 := by
  rw [List.getD_eq_getElem?_getD, List.getD_eq_getElem?_getD, List.getElem?_append_left h]
theorem addF_sh (P f : List Nd) : addF [] (P ++ shD P.length f) = ((addF (addF [] P).1 f).1, (addF [] P).2 ++ (addF (addF [] P).1 f).2) := by
  induction f using snocInd with
  | nil => simp [shD, addF]
  | snoc f nd ih =>
    rw [shD_snoc, ← List.append_assoc, addF_snoc, ih, addF_snoc]
    have hm : movd (fun x => ((addF [] P).2 ++ (addF (addF [] P).1 f).2).getD x 0) (nd.1.map (· + P.length), nd.2.map (· + P.length)) = movd (fun x => (addF (addF [] P).1 f).2.getD x 0) nd := by
      unfold movd
      simp only [List.map_map, Function.comp_def]
      have hl := at_lenP [] P
      have e : ∀ x, ((addF [] P).2 ++ (addF (addF [] P).1 f).2).getD (x + P.length) 0 = (addF (addF [] P).1 f).2.getD x 0 := fun x => by
        have := getD_right (addF [] P).2 (addF (addF [] P).1 f).2 x
        rwa [hl] at this
      simp only [e]
    dsimp only
    rw [hm, List.append_assoc]
/-- a game put on the pile, its top told -/
def stk (s : List Nd × List Nat) (f : List Nd) : List Nd × List Nat := (s.1 ++ shD s.1.length f, s.2 ++ [s.1.length + f.length - 1])
def stkL (P : List Nd) (fs : List (List Nd)) : List Nd × List Nat := fs.foldl stk (P, [])
theorem stkL_nil (P : List Nd) : stkL P [] = (P, []) := rfl
theorem stkL_snoc (P : List Nd) (fs : List (List Nd)) (f : List Nd) : stkL P (fs ++ [f]) = stk (stkL P fs) f := by simp [stkL, List.foldl_append]
theorem stkL_tops (P : List Nd) (fs : List (List Nd)) : (stkL P fs).2.length = fs.length := by
  induction fs using snocInd with
  | nil => rfl
  | snoc fs f ih => rw [stkL_snoc]; simp [stk, ih]
theorem stkL_pre (P : List Nd) (fs : List (List Nd)) : P <+: (stkL P fs).1 := by
  induction fs using snocInd with
  | nil => exact List.prefix_refl _
  | snoc fs f ih => rw [stkL_snoc]; exact ih.trans (List.prefix_append _ _)
theorem stkL_len (P : List Nd) (fs : List (List Nd)) (h : ∀ f ∈ fs, f.length ≤ 125) : (stkL P fs).1.length ≤ P.length + 125 * fs.length := by
  induction fs using snocInd with
  | nil => simp [stkL]
  | snoc fs f ih =>
    have h1 := ih (fun g hg => h g (by simp [hg]))
    have h2 := h f (by simp)
    rw [stkL_snoc]
    simp only [stk, List.length_append, shD_len, List.length_singleton]
    omega
/-- what is asked of the games -/
structure Fit (f : List Nd) : Prop where
  pos : 0 < f.length
  most : f.length ≤ 125
  under : Under f
  used : Used f
  small : ∀ nd ∈ f, nd.1.length ≤ 24 ∧ nd.2.length ≤ 24
theorem stkL_lt (P : List Nd) (fs : List (List Nd)) (h : ∀ f ∈ fs, 0 < f.length) : ∀ t ∈ (stkL P fs).2, t < (stkL P fs).1.length := by
  induction fs using snocInd with
  | nil => intro t ht; simp [stkL] at ht
  | snoc fs f ih =>
    have h1 := ih (fun g hg => h g (by simp [hg]))
    have h2 := h f (by simp)
    rw [stkL_snoc]
    intro t ht
    simp only [stk, List.length_append, shD_len, List.mem_append, List.mem_singleton] at ht ⊢
    rcases ht with ht | ht
    · have := h1 t ht; omega
    · omega
theorem under_sh {P f : List Nd} (hP : Under P) (hf : Under f) : Under (P ++ shD P.length f) := by
  intro k nd hk x hx
  rcases Nat.lt_or_ge k P.length with hlt | hge
  · rw [List.getElem?_append_left hlt] at hk
    exact hP k nd hk x hx
  · rw [List.getElem?_append_right hge] at hk
    obtain ⟨y, hy, rfl⟩ := shD_get hk
    have := hf _ y hy
    rcases hx with hx | hx
    · obtain ⟨z, hz, rfl⟩ := List.mem_map.1 hx
      have := this z (Or.inl hz); omega
    · obtain ⟨z, hz, rfl⟩ := List.mem_map.1 hx
      have := this z (Or.inr hz); omega
theorem stkL_under (P : List Nd) (fs : List (List Nd)) (hP : Under P) (h : ∀ f ∈ fs, Under f) : Under (stkL P fs).1 := by
  induction fs using snocInd with
  | nil => exact hP
  | snoc fs f ih =>
    rw [stkL_snoc]
    exact under_sh (ih (fun g hg => h g (by simp [hg]))) (h f (by simp))
theorem stkL_small (P : List Nd) (fs : List (List Nd)) (hP : ∀ nd ∈ P, nd.1.length ≤ 24 ∧ nd.2.length ≤ 24) (h : ∀ f ∈ fs, ∀ nd ∈ f, nd.1.length ≤ 24 ∧ nd.2.length ≤ 24) : ∀ nd ∈ (stkL P fs).1, nd.1.length ≤ 24 ∧ nd.2.length ≤ 24 := by
  induction fs using snocInd with
  | nil => exact hP
  | snoc fs f ih =>
    rw [stkL_snoc]
    intro nd hnd
    simp only [stk, List.mem_append] at hnd
    rcases hnd with hnd | hnd
    · exact ih (fun g hg => h g (by simp [hg])) nd hnd
    · unfold shD at hnd
      obtain ⟨x, hx, rfl⟩ := List.mem_map.1 hnd
      have := h f (by simp) x hx
      simpa using this
theorem Reached.pre {A C : List Nd} {r k : Nat} (hp : A <+: C) (h : Reached A r k) : Reached C r k := by
  induction h with
  | root => exact .root
  | opt _ hn hx ih => exact .opt ih (get_pre hp hn) hx
theorem Reached.trans {A : List Nd} {r k j : Nat} (h : Reached A r k) (g : Reached A k j) : Reached A r j := by
  induction g with
  | root => exact h
  | opt _ hn hx ih => exact .opt ih hn hx
theorem Reached.sh {P f : List Nd} {r k : Nat} (h : Reached f r k) : Reached (P ++ shD P.length f) (P.length + r) (P.length + k) := by
  induction h with
  | root => exact .root
  | @opt k' x nd _ hn hx ih =>
    refine .opt (k := P.length + k') (nd := (nd.1.map (· + P.length), nd.2.map (· + P.length))) ih ?_ ?_
    · rw [List.getElem?_append_right (by omega), Nat.add_sub_cancel_left]
      exact shD_at hn
    · rcases hx with hx | hx
      · exact Or.inl (List.mem_map.2 ⟨x, hx, by omega⟩)
      · exact Or.inr (List.mem_map.2 ⟨x, hx, by omega⟩)
theorem stkL_reach (P : List Nd) (fs : List (List Nd)) (h : ∀ f ∈ fs, Fit f) : ∀ k, k < (stkL P fs).1.length → k < P.length ∨ ∃ t ∈ (stkL P fs).2, Reached (stkL P fs).1 t k := by
  induction fs using snocInd with
  | nil => intro k hk; exact Or.inl hk
  | snoc fs f ih =>
    have h1 := ih (fun g hg => h g (by simp [hg]))
    have h2 := h f (by simp)
    rw [stkL_snoc]
    intro k hk
    simp only [stk, List.length_append, shD_len] at hk ⊢
    rcases Nat.lt_or_ge k (stkL P fs).1.length with hlt | hge
    · rcases h1 k hlt with h3 | ⟨t, ht, hr⟩
      · exact Or.inl h3
      · exact Or.inr ⟨t, List.mem_append_left _ ht, hr.pre (List.prefix_append _ _)⟩
    · right
      refine ⟨(stkL P fs).1.length + f.length - 1, by simp, ?_⟩
      have hr := used_reach h2.under h2.used (f.length - 1 - (k - (stkL P fs).1.length)) (by have := h2.pos; omega)
      have hr2 := hr.sh (P := (stkL P fs).1)
      have e1 : (stkL P fs).1.length + (f.length - 1) = (stkL P fs).1.length + f.length - 1 := by have := h2.pos; omega
      have e2 : (stkL P fs).1.length + (f.length - 1 - (f.length - 1 - (k - (stkL P fs).1.length))) = k := by omega
      rwa [e1, e2] at hr2
/-- games with a node on top -/
def mkD (ls rs : List (List Nd)) : List Nd := (stkL (stkL [] ls).1 rs).1 ++ [((stkL [] ls).2, (stkL (stkL [] ls).1 rs).2)]
theorem mkD_under {ls rs : List (List Nd)} (hl : ∀ f ∈ ls, Fit f) (hr : ∀ f ∈ rs, Fit f) : Under (mkD ls rs) := by
  have hu := stkL_under _ rs (stkL_under [] ls (fun k nd hk => by simp at hk) (fun f hf => (hl f hf).under)) (fun f hf => (hr f hf).under)
  have t1 := stkL_lt [] ls (fun f hf => (hl f hf).pos)
  have t2 := stkL_lt (stkL [] ls).1 rs (fun f hf => (hr f hf).pos)
  have hp := (stkL_pre (stkL [] ls).1 rs).length_le
  intro k nd hk x hx
  unfold mkD at hk
  rcases Nat.lt_or_ge k (stkL (stkL [] ls).1 rs).1.length with hlt | hge
  · rw [List.getElem?_append_left hlt] at hk
    exact hu k nd hk x hx
  · rw [List.getElem?_append_right hge] at hk
    have hk0 := get_lt hk
    simp at hk0
    rw [show k - (stkL (stkL [] ls).1 rs).1.length = 0 from by omega] at hk
    simp only [List.getElem?_cons_zero, Option.some.injEq] at hk
    subst hk
    rcases hx with hx | hx
    · have := t1 x hx; omega
    · have := t2 x hx; omega
theorem mkD_len (ls rs : List (List Nd)) : (mkD ls rs).length = (stkL (stkL [] ls).1 rs).1.length + 1 := by simp [mkD]
theorem mkD_most {ls rs : List (List Nd)} (hl : ∀ f ∈ ls, Fit f) (hr : ∀ f ∈ rs, Fit f) : (mkD ls rs).length ≤ 125 * ls.length + 125 * rs.length + 1 := by
  have h1 := stkL_len [] ls (fun f hf => (hl f hf).most)
  have h2 := stkL_len (stkL [] ls).1 rs (fun f hf => (hr f hf).most)
  rw [mkD_len]
  simp only [List.length_nil] at h1
  omega
theorem mkD_reach {ls rs : List (List Nd)} (hl : ∀ f ∈ ls, Fit f) (hr : ∀ f ∈ rs, Fit f) (k : Nat) (hk : k < (mkD ls rs).length) : Reached (mkD ls rs) ((mkD ls rs).length - 1) k := by
  have hlast : (mkD ls rs)[(mkD ls rs).length - 1]? = some ((stkL [] ls).2, (stkL (stkL [] ls).1 rs).2) := by
    rw [mkD_len]
    unfold mkD
    simp
  have hpre : (stkL (stkL [] ls).1 rs).1 <+: mkD ls rs := List.prefix_append _ _
  have hpre1 : (stkL [] ls).1 <+: mkD ls rs := (stkL_pre _ _).trans hpre
  have hk2 := hk
  rw [mkD_len] at hk2
  by_cases e : k = (mkD ls rs).length - 1
  · rw [e]; exact .root
  · have hk3 : k < (stkL (stkL [] ls).1 rs).1.length := by rw [mkD_len] at e; omega
    rcases stkL_reach (stkL [] ls).1 rs hr k hk3 with h3 | ⟨t, ht, h4⟩
    · rcases stkL_reach [] ls hl k h3 with h5 | ⟨t, ht, h4⟩
      · simp at h5
      · exact (Reached.opt .root hlast (Or.inl ht)).trans (h4.pre hpre1)
    · exact (Reached.opt .root hlast (Or.inr ht)).trans (h4.pre hpre)
/-- where the tops are in a book -/
def atT (Q : List Nd) (T : List Nat) : List Nat := T.map fun t => (addF [] Q).2.getD t 0
theorem atT_step (Q : List Nd) (T : List Nat) (f : List Nd) (h0 : 0 < f.length) (hT : ∀ t ∈ T, t < Q.length) :
    atT (Q ++ shD Q.length f) (T ++ [Q.length + f.length - 1]) = atT Q T ++ [(addF (addF [] Q).1 f).2.getD (f.length - 1) 0] := by
  unfold atT
  have hl := at_lenP [] Q
  rw [addF_sh, List.map_append]
  congr 1
  · refine List.map_congr_left fun t ht => ?_
    exact getD_left _ _ _ (by rw [hl]; exact hT t ht)
  · simp only [List.map_cons, List.map_nil]
    have := getD_right (addF [] Q).2 (addF (addF [] Q).1 f).2 (f.length - 1)
    rw [hl] at this
    rw [← this]
    congr 2
    omega
theorem atT_keep (Q : List Nd) (T : List Nat) (f : List Nd) (hT : ∀ t ∈ T, t < Q.length) : atT (Q ++ shD Q.length f) T = atT Q T := by
  unfold atT
  have hl := at_lenP [] Q
  rw [addF_sh]
  exact List.map_congr_left fun t ht => getD_left _ _ _ (by rw [hl]; exact hT t ht)
/-- what is asked of the games, however many nodes they have -/
structure FitW (f : List Nd) : Prop where
  pos : 0 < f.length
  under : Under f
  used : Used f
  small : ∀ nd ∈ f, nd.1.length ≤ 24 ∧ nd.2.length ≤ 24
theorem Fit.w {f : List Nd} (h : Fit f) : FitW f := ⟨h.pos, h.under, h.used, h.small⟩
end

section
open Go.RowKit
set_option linter.unusedVariables false
set_option linter.unusedSimpArgs false
structure MkS (base : Nat) (w : World) (Q : List Nd) (TL TR : List Nat) (gl cl gr cr : Nat) (vn vb : Value) (vs : List (Value × Value)) : Prop where
  bk : Bk base w base (addF [] Q).1 (bornsOf (addF [] Q).1) vn vb vs (fun g => g = gl ∨ g = gr)
  ol : w.ownsRow base 3 1 (.slice (some ⟨gl, 0, none⟩) TL.length cl) TL.length ((atT Q TL).map iv)
  or_ : w.ownsRow base 3 1 (.slice (some ⟨gr, 0, none⟩) TR.length cr) TR.length ((atT Q TR).map iv)
  ll : base < gl
  lr : base < gr
  ne : gl ≠ gr
  fl : ¬ Foot base vn vb gl
  fr : ¬ Foot base vn vb gr
  tl : ∀ t ∈ TL, t < Q.length
  tr : ∀ t ∈ TR, t < Q.length
  und : Under Q
theorem MkS.swap {base : Nat} {w : World} {Q : List Nd} {TL TR : List Nat} {gl cl gr cr : Nat} {vn vb : Value} {vs : List (Value × Value)} (h : MkS base w Q TL TR gl cl gr cr vn vb vs) : MkS base w Q TR TL gr cr gl cl vn vb vs :=
  ⟨h.bk.reX (fun _ _ e => e.symm), h.or_, h.ol, h.lr, h.ll, h.ne.symm, h.fr, h.fl, h.tr, h.tl, h.und⟩
theorem MkS.size {base : Nat} {w : World} {Q : List Nd} {TL TR : List Nat} {gl cl gr cr : Nat} {vn vb : Value} {vs : List (Value × Value)} (h : MkS base w Q TL TR gl cl gr cr vn vb vs) : gl < w.heap.size ∧ gr < w.heap.size ∧ base < w.heap.size := by
  have h1 := (World.ownsRow.lt h.ol gl rfl).2
  have h2 := (World.ownsRow.lt h.or_ gr rfl).2
  exact ⟨h1, h2, by have := h.ll; omega⟩
theorem MkS.below {base : Nat} {w w' : World} {Q : List Nd} {TL TR : List Nat} {gl cl gr cr : Nat} {vn vb : Value} {vs : List (Value × Value)} (h : MkS base w Q TL TR gl cl gr cr vn vb vs) (hb : Below w.heap.size w w') : MkS base w' Q TL TR gl cl gr cr vn vb vs :=
  ⟨h.bk.below hb, own_only h.ol (Only.of_below (F := fun _ => False) hb) (fun _ _ => id), own_only h.or_ (Only.of_below (F := fun _ => False) hb) (fun _ _ => id), h.ll, h.lr, h.ne, h.fl, h.fr, h.tl, h.tr, h.und⟩
theorem bk_nilM (w : World) : Bk w.heap.size (w.alloc (.cells #[.slice none 0 0, .slice none 0 0] 101)) w.heap.size [] (bornsOf []) (.slice none 0 0) (.slice none 0 0) [] (fun _ => False) :=
  ⟨by go_simp, by go_simp, by go_simp, by go_simp, Nat.le_refl _, World.ownsRow_nil _ _ _ _, rfl, fun j nd p hj => by simp at hj, World.ownsRow_nil _ _ _ _, by simp [Value.ownBlock], by simp [Value.ownBlock], fun g hg => by simp [Value.ownBlock] at hg⟩
theorem MkS.start (w : World) : MkS w.heap.size (((w.alloc (.cells #[.slice none 0 0, .slice none 0 0] 101)).alloc (.cells #[] 3)).alloc (.cells #[] 3)) [] [] [] (w.heap.size + 1) 0 (w.heap.size + 2) 0 (.slice none 0 0) (.slice none 0 0) [] := by
  have hz : (w.alloc (.cells #[.slice none 0 0, .slice none 0 0] 101)).heap.size = w.heap.size + 1 := by simp
  have hz2 : ((w.alloc (.cells #[.slice none 0 0, .slice none 0 0] 101)).alloc (.cells #[] 3)).heap.size = w.heap.size + 2 := by simp
  have hb : Below (w.alloc (.cells #[.slice none 0 0, .slice none 0 0] 101)).heap.size (w.alloc (.cells #[.slice none 0 0, .slice none 0 0] 101)) (((w.alloc (.cells #[.slice none 0 0, .slice none 0 0] 101)).alloc (.cells #[] 3)).alloc (.cells #[] 3)) := ((Below.refl _ _).alloc (Nat.le_refl _) _).alloc (by simp) _
  have nf : ∀ g, g ≠ w.heap.size → ¬ Foot w.heap.size (.slice none 0 0) (.slice none 0 0) g := fun g hg h => by
    rcases h with h | h | h
    · exact hg h
    · simp [Value.ownBlock] at h
    · simp [Value.ownBlock] at h
  refine ⟨((bk_nilM w).reX (Y := fun g => g = w.heap.size + 1 ∨ g = w.heap.size + 2) (fun g hg e => by rw [hz] at hg; omega)).below hb, ?_, ?_, by omega, by omega, by omega, nf _ (by omega), nf _ (by omega), fun t ht => by simp at ht, fun t ht => by simp at ht, fun k nd hk => by simp at hk⟩
  · have h := World.ownsRow_lit (base := w.heap.size) (e := 3) (size := 1) (w.alloc (.cells #[.slice none 0 0, .slice none 0 0] 101)) #[] 0 (by rw [hz]; omega) (by unfold maxLen; omega) rfl
    rw [hz] at h
    exact World.ownsRow.alloc h _
  · have h := World.ownsRow_lit (base := w.heap.size) (e := 3) (size := 1) ((w.alloc (.cells #[.slice none 0 0, .slice none 0 0] 101)).alloc (.cells #[] 3)) #[] 0 (by rw [hz2]; omega) (by unfold maxLen; omega) rfl
    rw [hz2] at h
    exact h
/-- a game is put into the book -/
theorem MkS.root_callsW {base : Nat} {wr : World} {Q : List Nd} {TL TR : List Nat} {gl cl gr cr : Nat} {vn vb : Value} {vs : List (Value × Value)} (h : MkS base wr Q TL TR gl cl gr cr vn vb vs) (W : World) (hW : Below wr.heap.size wr W) (v : Value) (f : List Nd) (hF : FitW f) (hn : Q.length + f.length ≤ 90000) (lo hi : Nat) (hh : hi ≤ base) (hv : NodesZ W lo hi v (f.map upN)) :
    Calls Try.prog 76 #[.pointer (some ⟨base, 0, none⟩), .agg #[v]] W fun e w' => e = .returned (.int .i64 ((addF (addF [] Q).1 f).2.getD (f.length - 1) 0 : Nat)) ∧ ∃ vn' vb' vs',
      Bk base w' base (addF (addF [] Q).1 f).1 (bornsOf (addF (addF [] Q).1 f).1) vn' vb' vs' (fun g => g = gl ∨ g = gr) ∧ Only W w' (Foot base vn vb) ∧ ∀ x, x < W.heap.size → Foot base vn' vb' x → Foot base vn vb x := by
  have hs := h.size
  have hz := hW.size
  refine root_callsX (fun g => g = gl ∨ g = gr) base base (addF [] Q).1 vn vb vs v f W lo hi hh (fun g hg => by rcases hg with hg | hg <;> omega) (fun g hg e => ?_) (h.bk.below hW) (addF_added [] book_nil Q h.und).book hv hF.under hF.pos (by have := (addF_len [] Q).2; simp at *; omega) (fun nd hnd => by have := hF.small nd hnd; omega)
  rcases e with e | e
  · exact h.fl (e ▸ hg)
  · exact h.fr (e ▸ hg)
theorem MkS.root_calls {base : Nat} {wr : World} {Q : List Nd} {TL TR : List Nat} {gl cl gr cr : Nat} {vn vb : Value} {vs : List (Value × Value)} (h : MkS base wr Q TL TR gl cl gr cr vn vb vs) (W : World) (hW : Below wr.heap.size wr W) (v : Value) (f : List Nd) (hF : Fit f) (hn : Q.length ≤ 80000) (lo hi : Nat) (hh : hi ≤ base) (hv : NodesZ W lo hi v (f.map upN)) :
    Calls Try.prog 76 #[.pointer (some ⟨base, 0, none⟩), .agg #[v]] W fun e w' => e = .returned (.int .i64 ((addF (addF [] Q).1 f).2.getD (f.length - 1) 0 : Nat)) ∧ ∃ vn' vb' vs',
      Bk base w' base (addF (addF [] Q).1 f).1 (bornsOf (addF (addF [] Q).1 f).1) vn' vb' vs' (fun g => g = gl ∨ g = gr) ∧ Only W w' (Foot base vn vb) ∧ ∀ x, x < W.heap.size → Foot base vn' vb' x → Foot base vn vb x :=
  h.root_callsW W hW v f hF.w (by have := hF.most; omega) lo hi hh hv
/-- ... and its place told -/
theorem MkS.nextW {base : Nat} {wr W w6 w7 : World} {Q : List Nd} {TL TR : List Nat} {gl cl gr cr : Nat} {vn vb vn' vb' v7 : Value} {vs vs' : List (Value × Value)} {f : List Nd} {u : Nat} (h : MkS base wr Q TL TR gl cl gr cr vn vb vs) (hF : FitW f) (hu : (addF (addF [] Q).1 f).2.getD (f.length - 1) 0 = u) (hW : Below wr.heap.size wr W)
    (hK6 : Bk base w6 base (addF (addF [] Q).1 f).1 (bornsOf (addF (addF [] Q).1 f).1) vn' vb' vs' (fun g => g = gl ∨ g = gr)) (ho6 : Only W w6 (Foot base vn vb)) (hf6 : ∀ g, g < W.heap.size → Foot base vn' vb' g → Foot base vn vb g)
    (hown7 : w7.ownsRow base 3 1 v7 (TL.length + 1) ((atT Q TL).map iv ++ [iv u])) (hgrow7 : (w6.alloc (.cells #[.int .i64 ((u : Nat) : Int)] 3)).grownBy w7 (Value.slice (some ⟨gl, 0, none⟩) TL.length cl).ownBlock)
    (hat7 : v7.ownBlock = (Value.slice (some ⟨gl, 0, none⟩) TL.length cl).ownBlock ∨ v7.ownBlock = some (w6.alloc (.cells #[.int .i64 ((u : Nat) : Int)] 3)).heap.size) :
    ∃ g7 c7, v7 = .slice (some ⟨g7, 0, none⟩) (TL.length + 1) c7 ∧ Hid (MkS base w7 (stk (Q, TL) f).1 (stk (Q, TL) f).2 TR g7 c7 gr cr vn' vb' vs') ∧ Hid (Below base wr w7) := by
  obtain ⟨g7, c7, rfl, _, hg7h⟩ := hown7.form (by omega)
  have hs := h.size
  have hll := h.ll
  have hlr := h.lr
  have hne := h.ne
  have HAPP : Only (w6.alloc (.cells #[.int .i64 ((u : Nat) : Int)] 3)) w7 (fun g => g = gl) := Only.of_grown hgrow7 (fun g e => by injection e with e; exact e.symm)
  have hal : Below w6.heap.size w6 (w6.alloc (.cells #[.int .i64 ((u : Nat) : Int)] 3)) := (Below.refl _ _).alloc (Nat.le_refl _) _
  have HK7a := hK6.below hal
  have hz6 : (w6.alloc (.cells #[.int .i64 ((u : Nat) : Int)] 3)).heap.size = w6.heap.size + 1 := by simp
  have hz5 := hW.size
  have hs6 := ho6.size
  have hglF : ¬ Foot base vn' vb' gl := fun hF => h.fl (hf6 gl (by omega) hF)
  have hgrF : ¬ Foot base vn' vb' gr := fun hF => h.fr (hf6 gr (by omega) hF)
  have hat : g7 = gl ∨ g7 = w6.heap.size + 1 := by
    rcases hat7 with e | e
    · left; injection e
    · right; rw [hz6] at e; injection e
  have HK7b := (HK7a.reX (Y := fun g => (g = gl ∨ g = w6.heap.size + 1) ∨ g = gr) (fun g hg e => by
    rcases e with (e | e) | e
    · exact Or.inl e
    · rw [hz6] at hg; omega
    · exact Or.inr e)).only (HAPP.mono (fun i _ e => Or.inl (Or.inl e))) (fun g hF e => by
    rcases e with (e | e) | e
    · exact hglF (e ▸ hF)
    · have := (HK7a.lt g hF).2; rw [hz6] at this; omega
    · exact hgrF (e ▸ hF))
  have HK7 : Bk base w7 base (addF (addF [] Q).1 f).1 (bornsOf (addF (addF [] Q).1 f).1) vn' vb' vs' (fun g => g = g7 ∨ g = gr) := HK7b.reX (fun g _ e => e.imp (fun e => by subst e; exact hat) id)
  have HNF7 : ¬ Foot base vn' vb' g7 := fun hF => by
    rcases hat with e | e
    · exact hglF (e ▸ hF)
    · have := (HK7a.lt g7 hF).2; rw [hz6] at this; omega
  have O6 : Only wr (w6.alloc (.cells #[.int .i64 ((u : Nat) : Int)] 3)) (Foot base vn vb) := ((Only.of_below (F := Foot base vn vb) hW).trans ho6 (fun i _ h => h)).trans (Only.of_below (F := Foot base vn vb) hal) (fun i _ h => h)
  have OT : Only wr w7 (fun g => Foot base vn vb g ∨ g = gl) := (O6.mono (fun i _ h => Or.inl h)).trans HAPP (fun i _ h => Or.inr h)
  have hR : w7.ownsRow base 3 1 (.slice (some ⟨gr, 0, none⟩) TR.length cr) TR.length ((atT Q TR).map iv) := own_only h.or_ OT (fun g e1 e2 => by
    injection e1 with e1
    subst e1
    rcases e2 with e2 | e2
    · exact h.fr e2
    · exact hne e2.symm)
  have hlen : Q.length ≤ (Q ++ shD Q.length f).length := by simp
  refine ⟨g7, c7, rfl, Lib.hid ⟨?_, ?_, ?_, by omega, hlr, by omega, HNF7, hgrF, ?_, fun t ht => Nat.lt_of_lt_of_le (h.tr t ht) hlen, under_sh h.und hF.under⟩, Lib.hid (OT.below (by omega) (fun g hg => by
    rcases hg with hg | hg
    · exact (h.bk.lt g hg).1
    · omega))⟩
  · show Bk base w7 base (addF [] (Q ++ shD Q.length f)).1 (bornsOf (addF [] (Q ++ shD Q.length f)).1) vn' vb' vs' _
    rw [addF_sh]
    exact HK7
  · show w7.ownsRow base 3 1 (.slice (some ⟨g7, 0, none⟩) (TL ++ [Q.length + f.length - 1]).length c7) (TL ++ [Q.length + f.length - 1]).length ((atT (Q ++ shD Q.length f) (TL ++ [Q.length + f.length - 1])).map iv)
    rw [atT_step Q TL f hF.pos h.tl, hu, List.map_append, List.length_append]
    exact hown7
  · show w7.ownsRow base 3 1 _ _ ((atT (Q ++ shD Q.length f) TR).map iv)
    rw [atT_keep Q TR f h.tr]
    exact hR
  · intro t ht
    have hp := hF.pos
    simp only [stk, List.mem_append, List.mem_singleton, List.length_append, shD_len] at ht ⊢
    rcases ht with ht | ht
    · have := h.tl t ht; omega
    · omega
theorem MkS.next {base : Nat} {wr W w6 w7 : World} {Q : List Nd} {TL TR : List Nat} {gl cl gr cr : Nat} {vn vb vn' vb' v7 : Value} {vs vs' : List (Value × Value)} {f : List Nd} {u : Nat} (h : MkS base wr Q TL TR gl cl gr cr vn vb vs) (hF : Fit f) (hu : (addF (addF [] Q).1 f).2.getD (f.length - 1) 0 = u) (hW : Below wr.heap.size wr W)
    (hK6 : Bk base w6 base (addF (addF [] Q).1 f).1 (bornsOf (addF (addF [] Q).1 f).1) vn' vb' vs' (fun g => g = gl ∨ g = gr)) (ho6 : Only W w6 (Foot base vn vb)) (hf6 : ∀ g, g < W.heap.size → Foot base vn' vb' g → Foot base vn vb g)
    (hown7 : w7.ownsRow base 3 1 v7 (TL.length + 1) ((atT Q TL).map iv ++ [iv u])) (hgrow7 : (w6.alloc (.cells #[.int .i64 ((u : Nat) : Int)] 3)).grownBy w7 (Value.slice (some ⟨gl, 0, none⟩) TL.length cl).ownBlock)
    (hat7 : v7.ownBlock = (Value.slice (some ⟨gl, 0, none⟩) TL.length cl).ownBlock ∨ v7.ownBlock = some (w6.alloc (.cells #[.int .i64 ((u : Nat) : Int)] 3)).heap.size) :
    ∃ g7 c7, v7 = .slice (some ⟨g7, 0, none⟩) (TL.length + 1) c7 ∧ Hid (MkS base w7 (stk (Q, TL) f).1 (stk (Q, TL) f).2 TR g7 c7 gr cr vn' vb' vs') ∧ Hid (Below base wr w7) :=
  h.nextW hF.w hu hW hK6 ho6 hf6 hown7 hgrow7 hat7
end

section
set_option linter.unusedVariables false
set_option linter.unusedSimpArgs false
open Go.RowKit
/-- a slice of forms, read -/
def FormsZ (w : World) (lo hi : Nat) (v : Value) (Fs : List (List Nz)) : Prop :=
  ∃ ao c, v = .slice ao Fs.length c ∧ (Fs.length ≤ c ∧ c ≤ 9223372036854775807) ∧ ∀ (j : Nat) (f : List Nz), Fs[j]? = some f → ∃ b off vf, ao = some ⟨b, off, none⟩ ∧ lo ≤ b ∧ b < hi ∧ w.cell? ⟨b, off + j, none⟩ = some vf ∧ NodesZ w lo hi vf f
theorem FormsZ.keep {w w' : World} {lo hi : Nat} {v : Value} {Fs : List (List Nz)} (h : FormsZ w lo hi v Fs) (hs : SameIn lo hi w w') : FormsZ w' lo hi v Fs := by
  obtain ⟨ao, c, rfl, hl, hn⟩ := h
  refine ⟨ao, c, rfl, hl, fun j f hj => ?_⟩
  obtain ⟨b, off, vf, e, h1, h2, h3, h4⟩ := hn j f hj
  exact ⟨b, off, vf, e, h1, h2, (hs b _ h1 h2).trans h3, h4.keep hs⟩
theorem FormsZ.below {w w' : World} {lo hi B : Nat} {v : Value} {Fs : List (List Nz)} (h : FormsZ w lo hi v Fs) (hb : Below B w w') (hB : hi ≤ B) : FormsZ w' lo hi v Fs := h.keep (Below.sameIn hb hB)
theorem FormsZ.wide {w : World} {lo hi lo' hi' : Nat} {v : Value} {Fs : List (List Nz)} (h : FormsZ w lo hi v Fs) (h1 : lo' ≤ lo) (h2 : hi ≤ hi') : FormsZ w lo' hi' v Fs := by
  obtain ⟨ao, c, rfl, hl, hn⟩ := h
  refine ⟨ao, c, rfl, hl, fun j f hj => ?_⟩
  obtain ⟨b, off, vf, e, k1, k2, k3, k4⟩ := hn j f hj
  exact ⟨b, off, vf, e, by omega, by omega, k3, k4.wide h1 h2⟩
theorem FormsZ.only {w w' : World} {lo hi : Nat} {v : Value} {Fs : List (List Nz)} {F : Nat → Prop} (h : FormsZ w lo hi v Fs) (hh : hi ≤ w.heap.size) (ho : Only w w' F) (hn : ∀ b, lo ≤ b → b < hi → ¬ F b) : FormsZ w' lo hi v Fs := h.keep (fun b o h1 h2 => ho.cell (by omega) (hn b h1 h2))
theorem FormsZ.nil (w : World) (lo hi : Nat) : FormsZ w lo hi (.slice none 0 0) [] := ⟨none, 0, rfl, by simp, fun j f hj => by simp at hj⟩
/-- the blocks of a form of the call's own -/
def AllF (p : Value × List (Value × Value)) (b : Nat) : Prop := p.1.ownBlock = some b ∨ BlkF p.2 b
structure OwnFS (w : World) (base : Nat) (v : Value) (ps : List (Value × List (Value × Value))) (Fs : List (List Nz)) : Prop where
  row : w.ownsRow base 28 1 v Fs.length (ps.map Prod.fst)
  len : ps.length = Fs.length
  each : ∀ (j : Nat) (f : List Nz) (p : Value × List (Value × Value)), Fs[j]? = some f → ps[j]? = some p → OwnF w base p.1 p.2 f
  two : ∀ (j : Nat) (p : Value × List (Value × Value)), ps[j]? = some p → ∀ b, AllF p b → v.ownBlock ≠ some b
  sep : ∀ (i j : Nat) (p q : Value × List (Value × Value)), i ≠ j → ps[i]? = some p → ps[j]? = some q → ∀ b, AllF p b → ¬ AllF q b
theorem OwnF.all {w : World} {base : Nat} {p : Value × List (Value × Value)} {f : List Nz} (h : OwnF w base p.1 p.2 f) {b : Nat} (hb : AllF p b) : base ≤ b ∧ b < w.heap.size := by
  rcases hb with hb | hb
  · exact World.ownsRow.lt h.nodes b hb
  · exact h.blk hb
/-- what is written lies apart from the form -/
theorem OwnF.apart {w w' : World} {base : Nat} {p : Value × List (Value × Value)} {f : List Nz} {F : Nat → Prop} (h : OwnF w base p.1 p.2 f) (ho : Only w w' F) (hn : ∀ b, AllF p b → ¬ F b) : OwnF w' base p.1 p.2 f :=
  ⟨own_only h.nodes ho (fun g e => hn g (Or.inl e)), h.len, fun j nd q h1 h2 => ⟨(h.list j nd q h1 h2).1.only ho (fun g e => hn g (Or.inr ⟨j, q, h2, Or.inl e⟩)), (h.list j nd q h1 h2).2.only ho (fun g e => hn g (Or.inr ⟨j, q, h2, Or.inr e⟩))⟩, h.two, h.sep⟩
theorem OwnFS.all {w : World} {base : Nat} {v : Value} {ps : List (Value × List (Value × Value))} {Fs : List (List Nz)} (h : OwnFS w base v ps Fs) {j : Nat} {p : Value × List (Value × Value)} (hp : ps[j]? = some p) {b : Nat} (hb : AllF p b) : base ≤ b ∧ b < w.heap.size := by
  obtain ⟨f, hf⟩ := lt_get (l := Fs) (i := j) (by rw [← h.len]; exact get_lt hp)
  exact (h.each j f p hf hp).all hb
/-- all of the list's blocks -/
def AllFS (v : Value) (ps : List (Value × List (Value × Value))) (b : Nat) : Prop := v.ownBlock = some b ∨ ∃ (j : Nat) (p : Value × List (Value × Value)), ps[j]? = some p ∧ AllF p b
theorem OwnFS.allS {w : World} {base : Nat} {v : Value} {ps : List (Value × List (Value × Value))} {Fs : List (List Nz)} (h : OwnFS w base v ps Fs) {b : Nat} (hb : AllFS v ps b) : base ≤ b ∧ b < w.heap.size := by
  rcases hb with hb | ⟨j, p, hp, hb⟩
  · exact World.ownsRow.lt h.row b hb
  · exact h.all hp hb
theorem OwnFS.only {w w' : World} {base : Nat} {v : Value} {ps : List (Value × List (Value × Value))} {Fs : List (List Nz)} {F : Nat → Prop} (h : OwnFS w base v ps Fs) (ho : Only w w' F) (hn : ∀ b, AllFS v ps b → ¬ F b) : OwnFS w' base v ps Fs :=
  ⟨own_only h.row ho (fun g e => hn g (Or.inl e)), h.len, fun j f p h1 h2 => (h.each j f p h1 h2).apart ho (fun b hb => hn b (Or.inr ⟨j, p, h2, hb⟩)), h.two, h.sep⟩
theorem OwnFS.below {w w' : World} {base : Nat} {v : Value} {ps : List (Value × List (Value × Value))} {Fs : List (List Nz)} (h : OwnFS w base v ps Fs) (hb : Below w.heap.size w w') : OwnFS w' base v ps Fs := h.only (Only.of_below (F := fun _ => False) hb) (fun _ _ => id)
theorem OwnFS.mono {w : World} {base base' : Nat} {v : Value} {ps : List (Value × List (Value × Value))} {Fs : List (List Nz)} (h : OwnFS w base v ps Fs) (hb : base' ≤ base) : OwnFS w base' v ps Fs :=
  ⟨World.ownsRow.mono h.row hb, h.len, fun j f p h1 h2 => (h.each j f p h1 h2).mono hb, h.two, h.sep⟩
theorem OwnFS.setCell {w : World} {base : Nat} {v : Value} {ps : List (Value × List (Value × Value))} {Fs : List (List Nz)} {p : Addr} {u : Value} (h : OwnFS w base v ps Fs) (hp : p.block < base) : OwnFS (w.setCell p u) base v ps Fs :=
  h.only (Only.of_set (F := fun b => b = p.block) u rfl) (fun b hb e => by have := h.allS hb; omega)
theorem OwnFS.nil (w : World) (base : Nat) : OwnFS w base (.slice none 0 0) [] [] :=
  ⟨World.ownsRow_nil _ _ _ _, rfl, fun j nd p h => by simp at h, fun j p h => by simp at h, fun i j p q _ h => by simp at h⟩
theorem OwnFS.shape {w : World} {base : Nat} {v : Value} {ps : List (Value × List (Value × Value))} {Fs : List (List Nz)} (h : OwnFS w base v ps Fs) : ∃ a c, v = .slice a Fs.length c := by
  rcases h.row.2 with ⟨h1, h0⟩ | ⟨g, c, cs, h1, _⟩
  · exact ⟨none, 0, by rw [h1, h0]⟩
  · exact ⟨_, _, h1⟩
theorem OwnFS.form_at {w : World} {base i : Nat} {v : Value} {ps : List (Value × List (Value × Value))} {Fs : List (List Nz)} {f : List Nz} (h : OwnFS w base v ps Fs) (hi : Fs[i]? = some f) :
    ∃ (g c : Nat) (p : Value × List (Value × Value)), v = .slice (some ⟨g, 0, none⟩) Fs.length c ∧ ps[i]? = some p ∧ w.cell? ⟨g, i, none⟩ = some p.1 ∧ OwnF w base p.1 p.2 f ∧ (Fs.length ≤ c ∧ c ≤ 9223372036854775807) ∧ base ≤ g ∧ g < w.heap.size := by
  have hil := get_lt hi
  rcases h.row.2 with ⟨h1, h0⟩ | ⟨g, c, cs, h1, _⟩
  · omega
  · subst h1
    have hn := h.row
    have hlt := World.ownsRow.lt hn _ rfl
    obtain ⟨p, hp⟩ := lt_get (l := ps) (i := i) (by rw [h.len]; exact hil)
    refine ⟨g, _, p, rfl, hp, ?_, h.each i f p hi hp, World.ownsRow.caps hn, hlt.1, hlt.2⟩
    rw [World.ownsRow.cellAt hn i (by omega), List.getElem?_map, hp]
    rfl
theorem OwnFS.formsZ {w : World} {base : Nat} {v : Value} {ps : List (Value × List (Value × Value))} {Fs : List (List Nz)} (h : OwnFS w base v ps Fs) : FormsZ w base w.heap.size v Fs := by
  rcases h.row.2 with ⟨h1, h0⟩ | ⟨g, c, cs, h1, _⟩
  · have hl : Fs = [] := List.length_eq_zero_iff.1 h0
    subst hl
    exact ⟨none, 0, by rw [h1]; rfl, by simp, fun j f hj => by simp at hj⟩
  · subst h1
    refine ⟨_, _, rfl, World.ownsRow.caps h.row, fun j f hj => ?_⟩
    obtain ⟨g', c', p, e, hp, hc, ho, _, h1, h2⟩ := h.form_at hj
    injection e with e _ _
    injection e with e
    injection e with e _ _
    subst e
    exact ⟨g, 0, p.1, rfl, h1, h2, by rw [Nat.zero_add]; exact hc, ho.nodesZ⟩
/-- one form is written -/
theorem OwnFS.set {w w' : World} {base j : Nat} {v : Value} {ps : List (Value × List (Value × Value))} {Fs : List (List Nz)} {f f' : List Nz} {p : Value × List (Value × Value)} (h : OwnFS w base v ps Fs) (hj : Fs[j]? = some f) (hp : ps[j]? = some p)
    (ho : Only w w' (BlkF p.2)) (hl : OwnF w' base p.1 p.2 f') : OwnFS w' base v ps (Fs.set j f') := by
  refine ⟨by rw [List.length_set]; exact own_only h.row ho (fun g h1 h2 => h.two j p hp g (Or.inr h2) h1), by rw [List.length_set]; exact h.len, fun i n0 q hi hq => ?_, h.two, h.sep⟩
  rcases set_get hi with ⟨e1, e2⟩ | ⟨hne, hi⟩
  · subst e1
    rw [hp] at hq
    injection hq with hq
    subst hq
    rw [e2]
    exact hl
  · exact (h.each i n0 q hi hq).apart ho (fun b hb hb2 => h.sep i j q p hne hq hp b hb (Or.inr hb2))
/-- the blocks of the lists of numbers -/
def BlkFS (ps : List (Value × List (Value × Value))) (b : Nat) : Prop := ∃ (j : Nat) (p : Value × List (Value × Value)), ps[j]? = some p ∧ BlkF p.2 b
theorem BlkFS.all {v : Value} {ps : List (Value × List (Value × Value))} {b : Nat} (h : BlkFS ps b) : AllFS v ps b := by
  obtain ⟨j, p, h1, h2⟩ := h
  exact Or.inr ⟨j, p, h1, Or.inr h2⟩
end

section
set_option linter.unusedVariables false
set_option linter.unusedSimpArgs false
def totL (fs : List (List Nd)) : Nat := (fs.map List.length).sum
theorem stkL_lenW (P : List Nd) (fs : List (List Nd)) : (stkL P fs).1.length = P.length + totL fs := by
  induction fs using snocInd with
  | nil => simp [stkL, totL]
  | snoc fs f ih =>
    rw [stkL_snoc]
    simp only [stk, List.length_append, shD_len, ih, totL, List.map_append, List.sum_append, List.map_cons, List.map_nil, List.sum_cons, List.sum_nil]
    omega
theorem totL_split (fs : List (List Nd)) (k : Nat) : totL fs = totL (fs.take k) + totL (fs.drop k) := by
  unfold totL
  rw [← List.sum_append, ← List.map_append, List.take_append_drop]
theorem totL_at {fs : List (List Nd)} {k : Nat} {f : List Nd} (h : fs[k]? = some f) : totL (fs.take k) + f.length ≤ totL fs := by
  rw [totL_split fs k]
  have hl := get_lt h
  have e : fs.drop k = f :: fs.drop (k + 1) := by
    rw [List.drop_eq_getElem_cons hl]
    congr 1
    rw [List.getElem?_eq_getElem hl] at h
    injection h
  rw [e]
  unfold totL
  simp
theorem totL_le (fs : List (List Nd)) (m : Nat) (h : ∀ f ∈ fs, f.length ≤ m) : totL fs ≤ m * fs.length := by
  induction fs with
  | nil => simp [totL]
  | cons f fs ih =>
    have h1 := ih (fun g hg => h g (List.mem_cons_of_mem _ hg))
    have h2 := h f List.mem_cons_self
    unfold totL at h1 ⊢
    simp only [List.map_cons, List.sum_cons, List.length_cons]
    rw [Nat.mul_add, Nat.mul_one]
    omega
theorem stkL_reachW (P : List Nd) (fs : List (List Nd)) (h : ∀ f ∈ fs, FitW f) : ∀ k, k < (stkL P fs).1.length → k < P.length ∨ ∃ t ∈ (stkL P fs).2, Reached (stkL P fs).1 t k := by
  induction fs using snocInd with
  | nil => intro k hk; exact Or.inl hk
  | snoc fs f ih =>
    have h1 := ih (fun g hg => h g (by simp [hg]))
    have h2 := h f (by simp)
    rw [stkL_snoc]
    intro k hk
    simp only [stk, List.length_append, shD_len] at hk ⊢
    rcases Nat.lt_or_ge k (stkL P fs).1.length with hlt | hge
    · rcases h1 k hlt with h3 | ⟨t, ht, hr⟩
      · exact Or.inl h3
      · exact Or.inr ⟨t, List.mem_append_left _ ht, hr.pre (List.prefix_append _ _)⟩
    · right
      refine ⟨(stkL P fs).1.length + f.length - 1, by simp, ?_⟩
      have hr := used_reach h2.under h2.used (f.length - 1 - (k - (stkL P fs).1.length)) (by have := h2.pos; omega)
      have hr2 := hr.sh (P := (stkL P fs).1)
      have e1 : (stkL P fs).1.length + (f.length - 1) = (stkL P fs).1.length + f.length - 1 := by have := h2.pos; omega
      have e2 : (stkL P fs).1.length + (f.length - 1 - (f.length - 1 - (k - (stkL P fs).1.length))) = k := by omega
      rwa [e1, e2] at hr2
theorem mkD_underW {ls rs : List (List Nd)} (hl : ∀ f ∈ ls, FitW f) (hr : ∀ f ∈ rs, FitW f) : Under (mkD ls rs) := by
  have hu := stkL_under _ rs (stkL_under [] ls (fun k nd hk => by simp at hk) (fun f hf => (hl f hf).under)) (fun f hf => (hr f hf).under)
  have t1 := stkL_lt [] ls (fun f hf => (hl f hf).pos)
  have t2 := stkL_lt (stkL [] ls).1 rs (fun f hf => (hr f hf).pos)
  have hp := (stkL_pre (stkL [] ls).1 rs).length_le
  intro k nd hk x hx
  unfold mkD at hk
  rcases Nat.lt_or_ge k (stkL (stkL [] ls).1 rs).1.length with hlt | hge
  · rw [List.getElem?_append_left hlt] at hk
    exact hu k nd hk x hx
  · rw [List.getElem?_append_right hge] at hk
    have hk0 := get_lt hk
    simp at hk0
    rw [show k - (stkL (stkL [] ls).1 rs).1.length = 0 from by omega] at hk
    simp only [List.getElem?_cons_zero, Option.some.injEq] at hk
    subst hk
    rcases hx with hx | hx
    · have := t1 x hx; omega
    · have := t2 x hx; omega
theorem mkD_lenW (ls rs : List (List Nd)) : (mkD ls rs).length = totL ls + totL rs + 1 := by
  rw [mkD_len, stkL_lenW, stkL_lenW]
  simp
theorem mkD_reachW {ls rs : List (List Nd)} (hl : ∀ f ∈ ls, FitW f) (hr : ∀ f ∈ rs, FitW f) (k : Nat) (hk : k < (mkD ls rs).length) : Reached (mkD ls rs) ((mkD ls rs).length - 1) k := by
  have hlast : (mkD ls rs)[(mkD ls rs).length - 1]? = some ((stkL [] ls).2, (stkL (stkL [] ls).1 rs).2) := by
    rw [mkD_len]
    unfold mkD
    simp
  have hpre : (stkL (stkL [] ls).1 rs).1 <+: mkD ls rs := List.prefix_append _ _
  have hpre1 : (stkL [] ls).1 <+: mkD ls rs := (stkL_pre _ _).trans hpre
  have hk2 := hk
  rw [mkD_len] at hk2
  by_cases e : k = (mkD ls rs).length - 1
  · rw [e]; exact .root
  · have hk3 : k < (stkL (stkL [] ls).1 rs).1.length := by rw [mkD_len] at e; omega
    rcases stkL_reachW (stkL [] ls).1 rs hr k hk3 with h3 | ⟨t, ht, h4⟩
    · rcases stkL_reachW [] ls hl k h3 with h5 | ⟨t, ht, h4⟩
      · simp at h5
      · exact (Reached.opt .root hlast (Or.inl ht)).trans (h4.pre hpre1)
    · exact (Reached.opt .root hlast (Or.inr ht)).trans (h4.pre hpre)
theorem mkD_smallW {ls rs : List (List Nd)} (hl : ∀ f ∈ ls, FitW f) (hr : ∀ f ∈ rs, FitW f) (h1 : ls.length ≤ 24) (h2 : rs.length ≤ 24) : ∀ nd ∈ mkD ls rs, nd.1.length ≤ 24 ∧ nd.2.length ≤ 24 := fun nd hnd => by
  unfold mkD at hnd
  rcases List.mem_append.1 hnd with h | h
  · exact stkL_small (stkL [] ls).1 rs (stkL_small [] ls (fun nd h => by simp at h) (fun f hf => (hl f hf).small)) (fun f hf => (hr f hf).small) nd h
  · rw [List.mem_singleton] at h
    subst h
    have t1 := stkL_tops [] ls
    have t2 := stkL_tops (stkL [] ls).1 rs
    dsimp only
    omega
theorem onto_le : ∀ (m n : Nat) (p : Nat → Nat), (∀ i, i < n → ∃ k, k < m ∧ p k = i) → n ≤ m
  | 0, n, p, h => by
    rcases Nat.eq_zero_or_pos n with h0 | h0
    · omega
    · obtain ⟨k, hk, _⟩ := h 0 h0
      omega
  | m + 1, n, p, h => by
    rcases Nat.lt_or_ge (p m) n with hv | hv
    · have h1 := onto_le m (n - 1) (fun k => if p m < p k then p k - 1 else p k) (fun i hi => by
        by_cases hiv : i < p m
        · obtain ⟨k, hk, e⟩ := h i (by omega)
          refine ⟨k, ?_, ?_⟩
          · rcases Nat.lt_or_ge k m with h2 | h2
            · exact h2
            · have : k = m := by omega
              subst this
              omega
          · rw [if_neg (by omega)]
            exact e
        · obtain ⟨k, hk, e⟩ := h (i + 1) (by omega)
          refine ⟨k, ?_, ?_⟩
          · rcases Nat.lt_or_ge k m with h2 | h2
            · exact h2
            · have : k = m := by omega
              subst this
              omega
          · rw [if_pos (by omega)]
            omega)
      omega
    · have h1 := onto_le m n p (fun i hi => by
        obtain ⟨k, hk, e⟩ := h i hi
        refine ⟨k, ?_, e⟩
        rcases Nat.lt_or_ge k m with h2 | h2
        · exact h2
        · have : k = m := by omega
          subst this
          omega)
      omega
theorem canon_len {P out : List Nd} {b : Nat → Nat} {need : Nat → Prop} {pl : Nat → Nat} (h : Canon P b need out pl) : out.length ≤ P.length :=
  onto_le P.length out.length pl (fun i hi => by obtain ⟨k, h1, _, h2⟩ := h.from' i hi; exact ⟨k, h1, h2⟩)
theorem canon_small {P out : List Nd} {b : Nat → Nat} {need : Nat → Prop} {pl : Nat → Nat} (h : Canon P b need out pl) (hs : ∀ nd ∈ P, nd.1.length ≤ 24 ∧ nd.2.length ≤ 24) : ∀ nd ∈ out, nd.1.length ≤ 24 ∧ nd.2.length ≤ 24 := fun nd hnd => by
  obtain ⟨i, hi⟩ := List.getElem?_of_mem hnd
  obtain ⟨k, hk, hn, e⟩ := h.from' i (get_lt hi)
  obtain ⟨x, hx⟩ := lt_get hk
  have h1 := h.node k x hx hn
  rw [e, hi] at h1
  injection h1 with h1
  rw [h1]
  exact movd_small pl x (hs x (List.mem_of_getElem? hx))
/-- what l3Make makes of such games is such a game -/
theorem made_fit {ls rs : List (List Nd)} (hl : ∀ f ∈ ls, FitW f) (hr : ∀ f ∈ rs, FitW f) (h1 : ls.length ≤ 24) (h2 : rs.length ≤ 24) : FitW (formM (mkD ls rs)) ∧ (formM (mkD ls rs)).length ≤ totL ls + totL rs + 1 := by
  have hp : 0 < (mkD ls rs).length := by rw [mkD_lenW]; omega
  obtain ⟨⟨pl, hc⟩, hst, _, hu⟩ := formM_canon (mkD ls rs) (mkD_underW hl hr) hp (mkD_reachW hl hr)
  refine ⟨⟨?_, hst.under, hu, canon_small hc (mkD_smallW hl hr h1 h2)⟩, by rw [← mkD_lenW]; exact canon_len hc⟩
  obtain ⟨x, hx⟩ := lt_get hp
  have := get_lt (hc.node 0 x hx trivial)
  omega
end

section
set_option linter.unusedVariables false
set_option linter.unusedSimpArgs false
open Go.RowKit
theorem form_isM (P : List Nd) : (fo (addF [] P).1 ((addF [] P).2.getD (P.length - 1) 0) (bOf (addF [] P).1 ((addF [] P).2.getD (P.length - 1) 0) + 1)).2 = formM P := rfl
/-- a form at its place in a list of forms -/
theorem forms_at {w : World} {lo hi : Nat} {v : Value} {Fs : List (List Nd)} (h : FormsZ w lo hi v (Fs.map (fun f => f.map upN))) {i : Nat} {f : List Nd} (hf : Fs[i]? = some f) :
    ∃ b off c vf, v = .slice (some ⟨b, off, none⟩) Fs.length c ∧ b < hi ∧ w.cell? ⟨b, off + i, none⟩ = some vf ∧ NodesZ w lo hi vf (f.map upN) := by
  obtain ⟨ao, c, rfl, _, h3⟩ := h
  obtain ⟨b, off, vf, rfl, _, hb, p1, i1⟩ := h3 i (f.map upN) (by rw [List.getElem?_map, hf]; rfl)
  exact ⟨b, off, c, vf, by rw [List.length_map], hb, p1, i1⟩
/-- the node on top put in -/
theorem atT_last (Q : List Nd) (L R : List Nat) : (addF [] (Q ++ [(L, R)])).2.getD ((Q ++ [(L, R)]).length - 1) 0 = seat (addF [] Q).1 (sortd (atT Q L), sortd (atT Q R)) := by
  rw [addF_snoc]
  have hl := at_lenP [] Q
  show ((addF [] Q).2 ++ [_]).getD _ 0 = _
  rw [List.length_append, List.length_singleton, Nat.add_sub_cancel, ← hl, getD_snoc_last]
  rfl
theorem atT_book (Q : List Nd) (L R : List Nat) : (addF [] (Q ++ [(L, R)])).1 = bookPut (addF [] Q).1 (sortd (atT Q L), sortd (atT Q R)) := by
  rw [addF_snoc]
  rfl
theorem own_intsM {w : World} {base g n c : Nat} {A : List Nat} (h : w.ownsRow base 3 1 (.slice (some ⟨g, 0, none⟩) n c) n (A.map iv)) (hn : n ≤ 1000000) : IntsZ w g (g + 1) (.slice (some ⟨g, 0, none⟩) n c) (upL A) := (own_intsA h hn).2
set_option maxRecDepth 100000 in
set_option maxHeartbeats 8000000 in
theorem l3MakeL_calls (vl vr : Value) (ls rs : List (List Nd)) (w : World) (lo hi lo' hi' : Nat) (hh : hi ≤ w.heap.size) (hh' : hi' ≤ w.heap.size) (hl : FormsZ w lo hi vl (ls.map (fun f => f.map upN))) (hr : FormsZ w lo' hi' vr (rs.map (fun f => f.map upN)))
    (hFl : ∀ f ∈ ls, FitW f) (hFr : ∀ f ∈ rs, FitW f) (nl : ls.length ≤ 200) (nr : rs.length ≤ 200) (hN : totL ls + totL rs ≤ 80000) :
    Calls Try.prog 55 #[vl, vr] w fun e w' => ∃ v, e = .returned (.agg #[v]) ∧ (∃ vs, LvN w.heap.size (fun b => v.ownBlock = some b) w' v vs (formM (mkD ls rs))) ∧ Below w.heap.size w w' := by
  have HL := Lib.hid fun (W : World) (hW : Below w.heap.size w W) => hl.below hW hh
  have HR := Lib.hid fun (W : World) (hW : Below w.heap.size w W) => hr.below hW hh'
  have HFL := Lib.hid hFl
  have HFR := Lib.hid hFr
  obtain ⟨al, cl, hve⟩ : ∃ a c, vl = .slice a ls.length c := by obtain ⟨a, c, e, _⟩ := hl; exact ⟨a, c, by rw [e, List.length_map]⟩
  obtain ⟨ar, cr, hvr⟩ : ∃ a c, vr = .slice a rs.length c := by obtain ⟨a, c, e, _⟩ := hr; exact ⟨a, c, by rw [e, List.length_map]⟩
  subst hve hvr
  have e0 : (w.alloc (.cells #[.slice none 0 0] 28)).heap.size = w.heap.size + 1 := by simp
  have hst := MkS.start (w.alloc (.cells #[.slice none 0 0] 28))
  rw [e0] at hst
  have HST := Lib.hid hst
  have HB0 : Hid (Below w.heap.size w ((((w.alloc (.cells #[.slice none 0 0] 28)).alloc (.cells #[.slice none 0 0, .slice none 0 0] 101)).alloc (.cells #[] 3)).alloc (.cells #[] 3))) :=
    Lib.hid (((((Below.refl _ _).alloc (Nat.le_refl _) _).alloc (by simp) _).alloc (by simp; omega) _).alloc (by simp; omega) _)
  have HQ : Hid (∀ k, k ≤ ls.length → (stkL [] (ls.take k)).1.length ≤ totL ls ∧ (stkL [] (ls.take k)).2.length = k ∧ ∀ f, ls[k]? = some f → (stkL [] (ls.take k)).1.length + f.length ≤ totL ls) := Lib.hid (fun k hk => by
    have h1 := stkL_lenW [] (ls.take k)
    have h2 := stkL_tops [] (ls.take k)
    have h3 : (ls.take k).length = k := by rw [List.length_take]; omega
    have h4 := totL_split ls k
    rw [h3] at h2
    simp only [List.length_nil] at h1
    exact ⟨by omega, h2, fun f hf => by have := totL_at hf; omega⟩)
  clear hl hr hFl hFr hst e0
  go_enter Try.func55, Try.ntmps55
  go_wp2
  go_loopw [6, 8] (fun q i wr => ∃ (k g c : Nat) (vn vb : Value) (vs : List (Value × Value)), k ≤ ls.length ∧ i = .int .i64 k ∧ q = .slice (some ⟨g, 0, none⟩) k c ∧ Hid (MkS (w.heap.size + 1) wr (stkL [] (ls.take k)).1 (stkL [] (ls.take k)).2 [] g c (w.heap.size + 3) 0 vn vb vs) ∧
      Hid (Below w.heap.size w wr) ∧ Hid (BoxAt wr w.heap.size (.slice none 0 0))) (fun _ i _ => ls.length - (intOf i).toNat)
  case atStart => exact ⟨0, w.heap.size + 2, 0, _, _, _, Nat.zero_le _, rfl, rfl, by rw [List.take_zero]; exact HST, HB0, Lib.hid ⟨by go_simp, by go_simp⟩⟩
  case round =>
    obtain ⟨k, g, c, vn, vb, vs, hk, rfl, rfl, hS, hb, hx⟩ := hrel
    clear HST HB0
    by_cases hlt : k < ls.length
    · obtain ⟨f, hf⟩ := lt_get hlt
      have hFf := HFL.out f (List.mem_of_getElem? hf)
      obtain ⟨b, off, cc, vf, e, hbh, p1, i1⟩ := forms_at (HL.out wr hb.out) hf
      obtain ⟨q1, q2, q3⟩ := slice_inj e
      clear q2
      subst q1 q3
      obtain ⟨hQl, hTl, hQf⟩ := HQ.out k hk
      have hQf := hQf f hf
      have HTK := Lib.hid (show stkL [] (ls.take (k + 1)) = stk (stkL [] (ls.take k)) f from by rw [List.take_add_one, hf]; exact stkL_snoc _ _ _)
      obtain ⟨Q, hQ⟩ : ∃ Q, (stkL [] (ls.take k)).1 = Q := ⟨_, rfl⟩
      obtain ⟨T, hT⟩ : ∃ T, (stkL [] (ls.take k)).2 = T := ⟨_, rfl⟩
      have HPR : Hid (stkL [] (ls.take (k + 1)) = stk (Q, T) f) := Lib.hid (by rw [HTK.out, ← hQ, ← hT])
      rw [hQ, hT] at hS
      rw [hQ] at hQl hQf
      rw [hT] at hTl
      obtain ⟨u, hu⟩ : ∃ u, (addF (addF [] Q).1 f).2.getD (f.length - 1) 0 = u := ⟨_, rfl⟩
      have C := Lib.hid (hS.out.root_callsW wr (Below.refl _ _) vf f hFf (by omega) lo hi (by omega) i1)
      rw [hu] at C
      have HU := Lib.hid hu
      have HTL := Lib.hid hTl
      have HFF := Lib.hid hFf
      have hbs := hb.out.size
      obtain ⟨_, hgr, hbase⟩ := hS.out.size
      have hfl := hS.out.fl
      have HOL := Lib.hid hS.out.ol
      obtain ⟨i0, hi0, hz0, hz1, hz2⟩ := info_parts infoIntA
      have b0 : (0 : Int) ≤ k := by omega
      have b1 : (k : Int) < ls.length := by omega
      obtain ⟨af, nf, cf, hvf⟩ : ∃ a n c, vf = .slice a n c := by obtain ⟨a, c, e, _⟩ := i1; exact ⟨a, _, c, e⟩
      subst hvf
      clear e i1 hf hQ hT hu hTl HTK hFf
      go_wp2_with fail
      refine C.out.mono ?_
      rintro e w6 ⟨rfl, vn', vb', vs', hK6, ho6, hf6⟩
      have HK6 := Lib.hid hK6
      have HF6 := Lib.hid hf6
      have HO6 := Lib.hid ho6
      have hown6 := Lib.hid (World.ownsRow.alloc (own_only HOL.out ho6 (fun q e => by injection e with e; subst e; exact hfl)) (.cells #[.int .i64 (u : Int)] 3))
      rw [HTL.out] at hown6
      have hs6 := ho6.size
      clear hK6 ho6 hf6 C
      go_wp2_with (at_builtin; refine wpList_append_own_at _ rfl _ _ 34 rfl (w.heap.size + 1) 3 i0 (.int .i64 0) 1 8 Try.underlying34 hi0 hz0 hz1 hz2 rfl (by decide) _ _ _ rfl hown6.out ⟨w6.heap.size, 0, none⟩ 1 1 [iv u] rfl rfl (cell_one_new _ _ _) (by simp [iv, Value.oneCell']) (by unfold maxLen; omega) (by omega) (by simp; omega) ?_; intro v7 w7 hown7 hgrow7 hnil7 hat7)
      obtain ⟨g7, c7, rfl, HS7, HB7⟩ := hS.out.nextW HFF.out HU.out (Below.refl _ _) HK6.out HO6.out HF6.out (by rw [HTL.out]; exact hown7) (by rw [HTL.out]; exact hgrow7) (by rw [HTL.out]; exact hat7)
      rw [HTL.out]
      have S7 : Hid (MkS (w.heap.size + 1) w7 (stkL [] (ls.take (k + 1))).1 (stkL [] (ls.take (k + 1))).2 [] g7 c7 (w.heap.size + 3) 0 vn' vb' vs') := Lib.hid (by rw [HPR.out]; exact HS7.out)
      have B7 : Hid (Below w.heap.size w w7) := Lib.hid (hb.out.trans (HB7.out.mono (by omega)))
      have X7 : Hid (BoxAt w7 w.heap.size (.slice none 0 0)) := Lib.hid (hx.out.block (HB7.out.block _ (by omega)))
      clear hown7 hgrow7 hnil7 hat7 HS7 HB7 hb hx hS p1 hown6 HK6 HO6 HF6 HOL
      go_wp2
      go_roundw
      case rel => exact ⟨k + 1, g7, c7, vn', vb', vs', by omega, by go_num, rfl, S7, B7, X7⟩
      case measure => simp [intOf]; omega
    · have hkl : k = ls.length := by omega
      subst hkl
      rw [List.take_length] at hS
      obtain ⟨hQ1, hT1, _⟩ := HQ.out ls.length (Nat.le_refl _)
      rw [List.take_length] at hQ1 hT1
      obtain ⟨Q1, hQe⟩ : ∃ Q, (stkL [] ls).1 = Q := ⟨_, rfl⟩
      obtain ⟨T1, hTe⟩ : ∃ T, (stkL [] ls).2 = T := ⟨_, rfl⟩
      rw [hQe, hTe] at hS
      rw [hQe] at hQ1
      rw [hTe] at hT1
      have HMK : Hid (mkD ls rs = (stkL Q1 rs).1 ++ [(T1, (stkL Q1 rs).2)]) := Lib.hid (by unfold mkD; rw [hQe, hTe])
      have HT1 := Lib.hid hT1
      have HQ2 : Hid (∀ j, j ≤ rs.length → (stkL Q1 (rs.take j)).1.length ≤ totL ls + totL rs ∧ (stkL Q1 (rs.take j)).2.length = j ∧ ∀ f, rs[j]? = some f → (stkL Q1 (rs.take j)).1.length + f.length ≤ totL ls + totL rs) := Lib.hid (fun j hj => by
        have h1 := stkL_lenW Q1 (rs.take j)
        have h2 := stkL_tops Q1 (rs.take j)
        have h3 : (rs.take j).length = j := by rw [List.length_take]; omega
        have h4 := totL_split rs j
        rw [h3] at h2
        exact ⟨by omega, h2, fun f hf => by have := totL_at hf; omega⟩)
      have HS1 := Lib.hid hS.out.swap
      clear hS hQe hTe hT1
      go_wp2
      go_loopw [7, 9] (fun q i wr => ∃ (j g2 c2 : Nat) (vn vb : Value) (vs : List (Value × Value)), j ≤ rs.length ∧ i = .int .i64 j ∧ q = .slice (some ⟨g2, 0, none⟩) j c2 ∧ Hid (MkS (w.heap.size + 1) wr (stkL Q1 (rs.take j)).1 (stkL Q1 (rs.take j)).2 T1 g2 c2 g c vn vb vs) ∧
          Hid (Below w.heap.size w wr) ∧ Hid (BoxAt wr w.heap.size (.slice none 0 0))) (fun _ i _ => rs.length - (intOf i).toNat)
      case atStart => exact ⟨0, w.heap.size + 3, 0, _, _, _, Nat.zero_le _, rfl, rfl, by rw [List.take_zero]; exact HS1, hb, hx⟩
      case round =>
        clear hb hx HS1 vn vb vs
        obtain ⟨j, g2, c2, vn, vb, vs, hj, rfl, rfl, hS, hb, hx⟩ := hrel
        by_cases hlt : j < rs.length
        · obtain ⟨f, hf⟩ := lt_get hlt
          have hFf := HFR.out f (List.mem_of_getElem? hf)
          obtain ⟨b, off, cc, vf, e, hbh, p1, i1⟩ := forms_at (HR.out wr hb.out) hf
          obtain ⟨q1, q2, q3⟩ := slice_inj e
          clear q2
          subst q1 q3
          obtain ⟨hQl, hTl, hQf⟩ := HQ2.out j hj
          have hQf := hQf f hf
          have HTK := Lib.hid (show stkL Q1 (rs.take (j + 1)) = stk (stkL Q1 (rs.take j)) f from by rw [List.take_add_one, hf]; exact stkL_snoc _ _ _)
          obtain ⟨Q, hQ⟩ : ∃ Q, (stkL Q1 (rs.take j)).1 = Q := ⟨_, rfl⟩
          obtain ⟨T, hT⟩ : ∃ T, (stkL Q1 (rs.take j)).2 = T := ⟨_, rfl⟩
          have HPR : Hid (stkL Q1 (rs.take (j + 1)) = stk (Q, T) f) := Lib.hid (by rw [HTK.out, ← hQ, ← hT])
          rw [hQ, hT] at hS
          rw [hQ] at hQl hQf
          rw [hT] at hTl
          obtain ⟨u, hu⟩ : ∃ u, (addF (addF [] Q).1 f).2.getD (f.length - 1) 0 = u := ⟨_, rfl⟩
          have C := Lib.hid (hS.out.root_callsW wr (Below.refl _ _) vf f hFf (by omega) lo' hi' (by omega) i1)
          rw [hu] at C
          have HU := Lib.hid hu
          have HTL := Lib.hid hTl
          have HFF := Lib.hid hFf
          have hbs := hb.out.size
          obtain ⟨_, hgr, hbase⟩ := hS.out.size
          have hfl := hS.out.fl
          have HOL := Lib.hid hS.out.ol
          obtain ⟨i0, hi0, hz0, hz1, hz2⟩ := info_parts infoIntA
          have b0 : (0 : Int) ≤ j := by omega
          have b1 : (j : Int) < rs.length := by omega
          obtain ⟨af, nf, cf, hvf⟩ : ∃ a n c, vf = .slice a n c := by obtain ⟨a, c, e, _⟩ := i1; exact ⟨a, _, c, e⟩
          subst hvf
          clear e i1 hf hQ hT hu hTl HTK hFf
          go_wp2_with fail
          refine C.out.mono ?_
          rintro e w6 ⟨rfl, vn', vb', vs', hK6, ho6, hf6⟩
          have HK6 := Lib.hid hK6
          have HF6 := Lib.hid hf6
          have HO6 := Lib.hid ho6
          have hown6 := Lib.hid (World.ownsRow.alloc (own_only HOL.out ho6 (fun q e => by injection e with e; subst e; exact hfl)) (.cells #[.int .i64 (u : Int)] 3))
          rw [HTL.out] at hown6
          have hs6 := ho6.size
          clear hK6 ho6 hf6 C
          go_wp2_with (at_builtin; refine wpList_append_own_at _ rfl _ _ 34 rfl (w.heap.size + 1) 3 i0 (.int .i64 0) 1 8 Try.underlying34 hi0 hz0 hz1 hz2 rfl (by decide) _ _ _ rfl hown6.out ⟨w6.heap.size, 0, none⟩ 1 1 [iv u] rfl rfl (cell_one_new _ _ _) (by simp [iv, Value.oneCell']) (by unfold maxLen; omega) (by omega) (by simp; omega) ?_; intro v7 w7 hown7 hgrow7 hnil7 hat7)
          obtain ⟨g7, c7, rfl, HS7, HB7⟩ := hS.out.nextW HFF.out HU.out (Below.refl _ _) HK6.out HO6.out HF6.out (by rw [HTL.out]; exact hown7) (by rw [HTL.out]; exact hgrow7) (by rw [HTL.out]; exact hat7)
          rw [HTL.out]
          have S7 : Hid (MkS (w.heap.size + 1) w7 (stkL Q1 (rs.take (j + 1))).1 (stkL Q1 (rs.take (j + 1))).2 T1 g7 c7 g c vn' vb' vs') := Lib.hid (by rw [HPR.out]; exact HS7.out)
          have B7 : Hid (Below w.heap.size w w7) := Lib.hid (hb.out.trans (HB7.out.mono (by omega)))
          have X7 : Hid (BoxAt w7 w.heap.size (.slice none 0 0)) := Lib.hid (hx.out.block (HB7.out.block _ (by omega)))
          clear hown7 hgrow7 hnil7 hat7 HS7 HB7 hb hx hS p1 hown6 HK6 HO6 HF6 HOL
          go_wp2
          go_roundw
          case rel => exact ⟨j + 1, g7, c7, vn', vb', vs', by omega, by go_num, rfl, S7, B7, X7⟩
          case measure => simp [intOf]; omega
        · have hje : j = rs.length := by omega
          subst hje
          rw [List.take_length] at hS
          obtain ⟨hQ2, hT2, _⟩ := HQ2.out rs.length (Nat.le_refl _)
          rw [List.take_length] at hQ2 hT2
          obtain ⟨Q2, hQe⟩ : ∃ Q, (stkL Q1 rs).1 = Q := ⟨_, rfl⟩
          obtain ⟨T2, hTe⟩ : ∃ T, (stkL Q1 rs).2 = T := ⟨_, rfl⟩
          rw [hQe, hTe] at hS HMK
          rw [hQe] at hQ2
          rw [hTe] at hT2
          have HT2 := Lib.hid hT2
          have hbs := hb.out.size
          obtain ⟨hg2, hg1, hbase⟩ := hS.out.size
          have hsl := hS.out.ll
          have hsr := hS.out.lr
          have hal := (addF_len [] Q2).2
          have hal2 : (addF [] Q2).1.length ≤ 80000 := by simp at hal; omega
          have hadd := addF_added [] book_nil Q2 hS.out.und
          have hI1 := own_intsM hS.out.or_ (by rw [HT1.out]; omega)
          have hI2 := own_intsM hS.out.ol (by rw [HT2.out]; omega)
          rw [HT1.out] at hI1
          rw [HT2.out] at hI2
          have hat : ∀ t, t < Q2.length → (addF [] Q2).2.getD t 0 < (addF [] Q2).1.length := fun t ht => by
            obtain ⟨n0, hn0⟩ := lt_get ht
            exact get_lt (hadd.node t n0 hn0)
          have CP := Lib.hid (put_calls (w.heap.size + 1) (w.heap.size + 1) (addF [] Q2).1 vn vb vs (fun q => q = g2 ∨ q = g) (.slice (some ⟨g, 0, none⟩) ls.length c) (.slice (some ⟨g2, 0, none⟩) rs.length c2) (atT Q2 T1) (atT Q2 T2) wr g (g + 1) g2 (g2 + 1) (by omega) (by omega) hS.out.bk (fun q e => by omega) hadd.book.struct.under hI1 hI2
            (fun y hy => by obtain ⟨t, ht, rfl⟩ := List.mem_map.1 hy; exact hat t (hS.out.tr t ht)) (fun y hy => by obtain ⟨t, ht, rfl⟩ := List.mem_map.1 hy; exact hat t (hS.out.tl t ht)) (by omega) (by unfold atT; rw [List.length_map, HT1.out]; omega) (by unfold atT; rw [List.length_map, HT2.out]; omega))
          have hlast := atT_last Q2 T1 T2
          have hbk := atT_book Q2 T1 T2
          rw [← HMK.out] at hlast hbk
          rw [← hlast, ← hbk] at CP
          have hMu : Under (mkD ls rs) := mkD_underW HFL.out HFR.out
          have hMl : (mkD ls rs).length ≤ 80001 := by rw [HMK.out]; simp; omega
          have hMp : 0 < (mkD ls rs).length := by rw [HMK.out]; simp
          have hMa := addF_added [] book_nil (mkD ls rs) hMu
          have hMb := (addF_len [] (mkD ls rs)).2
          obtain ⟨M, hM⟩ : ∃ M, mkD ls rs = M := ⟨_, rfl⟩
          have HM := Lib.hid hM
          rw [hM] at CP hMl hMp hMa hMb
          obtain ⟨z, hz⟩ : ∃ z, (addF [] M).2.getD (M.length - 1) 0 = z := ⟨_, rfl⟩
          have hzl : z < (addF [] M).1.length := by
            rw [← hz]
            obtain ⟨n0, hn0⟩ := lt_get (l := M) (i := M.length - 1) (by omega)
            exact get_lt (hMa.node _ n0 hn0)
          have hFI := form_isM M
          rw [hz] at CP hFI
          have HFI := Lib.hid hFI
          have HMB := Lib.hid hMa.book
          have hMb2 : (addF [] M).1.length ≤ 90000 := by simp at hMb; omega
          have HFT := Lib.hid hS.out.bk.lt
          clear hI1 hI2 hadd hat hS hlast hbk hMu hMa hMb hM hz hFI hQe hTe hT2 hal HMK hMp hMl
          go_wp2_with fail
          refine CP.out.mono ?_
          rintro e w6 ⟨rfl, vn', vb', vs', hK6, ho6, hf6⟩
          have hs6 := ho6.size
          have HB6 : Hid (Below (w.heap.size + 1) wr w6) := Lib.hid (ho6.below (by omega) (fun q hq => (HFT.out q hq).1))
          have CF := Lib.hid (form_callsL (w.heap.size + 1) (w.heap.size + 1) (addF [] M).1 vn' vb' vs' (fun q => q = g2 ∨ q = g) z w6 hK6 HMB.out hzl hMb2)
          rw [HFI.out] at CF
          obtain ⟨G, hG⟩ : ∃ G, formM M = G := ⟨_, rfl⟩
          have HG := Lib.hid hG
          rw [hG] at CF
          have hx6 := hx.out.block (HB6.out.block _ (by omega))
          have HB6' := Lib.hid (hb.out.trans (HB6.out.mono (by omega)))
          have hs6w := HB6'.out.size
          clear hK6 ho6 hf6 CP hG hx hb
          go_wp2_with fail
          refine CF.out.mono ?_
          rintro e w5 ⟨v, rfl, ⟨vs5, hn5⟩, hb5⟩
          obtain ⟨d5, z5⟩ := hx6.below hb5
          have hlt1 := block_of_cell hx6.1
          have HB5 : Hid (Below w.heap.size w (w5.setCell ⟨w.heap.size, 0, none⟩ v)) := Lib.hid ((HB6'.out.trans (hb5.mono hs6w)).setCell (Nat.le_refl _) _)
          have HN : Hid (∃ vs, LvN w.heap.size (fun b => v.ownBlock = some b) (w5.setCell ⟨w.heap.size, 0, none⟩ v) v vs G) := Lib.hid ⟨vs5, hn5.fin (by omega) hs6w (fun b e => e) _⟩
          have hcr := World.cell?_setCell_same w5 ⟨w.heap.size, 0, none⟩ v d5
          obtain ⟨av, cv, rfl⟩ := own_form' hn5.nodes
          clear hn5 hb5 CF hx6
          go_wp2_with fail
          refine bodyPost_ret (v := .agg #[.slice av G.length cv]) (by simp [results, Try.results55, go_sem, hcr]) rfl ?_
          rw [HM.out, HG.out]
          exact ⟨_, rfl, HN.out, HB5.out⟩
theorem l3Make_calls (vl vr : Value) (ls rs : List (List Nd)) (w : World) (lo hi lo' hi' : Nat) (hh : hi ≤ w.heap.size) (hh' : hi' ≤ w.heap.size) (hl : FormsZ w lo hi vl (ls.map (fun f => f.map upN))) (hr : FormsZ w lo' hi' vr (rs.map (fun f => f.map upN)))
    (hFl : ∀ f ∈ ls, Fit f) (hFr : ∀ f ∈ rs, Fit f) (nl : ls.length ≤ 200) (nr : rs.length ≤ 200) :
    Calls Try.prog 55 #[vl, vr] w fun e w' => ∃ v, e = .returned (.agg #[v]) ∧ NodesZ w' w.heap.size w'.heap.size v ((formM (mkD ls rs)).map upN) ∧ Below w.heap.size w w' := by
  have h1 := totL_le ls 125 (fun f hf => (hFl f hf).most)
  have h2 := totL_le rs 125 (fun f hf => (hFr f hf).most)
  refine (l3MakeL_calls vl vr ls rs w lo hi lo' hi' hh hh' hl hr (fun f hf => (hFl f hf).w) (fun f hf => (hFr f hf).w) nl nr (by omega)).mono ?_
  rintro e w' ⟨v, he, ⟨vs, hv⟩, hb⟩
  exact ⟨v, he, hv.nodesZ, hb⟩
end

section
set_option linter.unusedVariables false
set_option linter.unusedSimpArgs false
def sZero : List Nd := formM (mkD [] [])
def sOne : List Nd := formM (mkD [sZero] [])
def sLess : List Nd := formM (mkD [] [sZero])
def sStar : List Nd := formM (mkD [sZero] [sZero])
def sUp : List Nd := formM (mkD [sZero] [sStar])
def sHalf : List Nd := formM (mkD [sZero] [sOne])
def sHot : List Nd := formM (mkD [sOne] [sLess])
def sTwo : List Nd := formM (mkD [sZero, sStar] [sZero, sStar])
def sDown : List Nd := formM (mkD [sStar] [sZero])
def smallL : List (List Nd) := [sZero, sOne, sLess, sStar, sUp, sHalf, sHot, sTwo, sDown]
theorem sZero_is : sZero = [([], [])] := by unfold sZero; decide
theorem sOne_is : sOne = [([], []), ([0], [])] := by unfold sOne; rw [sZero_is]; decide
theorem sLess_is : sLess = [([], []), ([], [0])] := by unfold sLess; rw [sZero_is]; decide
theorem sStar_is : sStar = [([], []), ([0], [0])] := by unfold sStar; rw [sZero_is]; decide
theorem sUp_len : sUp.length ≤ 4 := by unfold sUp; rw [sZero_is, sStar_is]; decide
theorem sHalf_len : sHalf.length ≤ 4 := by unfold sHalf; rw [sZero_is, sOne_is]; decide
theorem sHot_len : sHot.length ≤ 4 := by unfold sHot; rw [sOne_is, sLess_is]; decide
theorem sTwo_len : sTwo.length ≤ 4 := by unfold sTwo; rw [sZero_is, sStar_is]; decide
theorem sDown_len : sDown.length ≤ 4 := by unfold sDown; rw [sZero_is, sStar_is]; decide
theorem sZero_le : sZero.length ≤ 4 := by rw [sZero_is]; decide
theorem sOne_le : sOne.length ≤ 4 := by rw [sOne_is]; decide
theorem sLess_le : sLess.length ≤ 4 := by rw [sLess_is]; decide
theorem sStar_le : sStar.length ≤ 4 := by rw [sStar_is]; decide
theorem fit_nil : ∀ f ∈ ([] : List (List Nd)), FitW f := fun f hf => by simp at hf
theorem fit_one {a : List Nd} (h : FitW a) : ∀ f ∈ [a], FitW f := fun f hf => by simp at hf; subst hf; exact h
theorem fit_two {a b : List Nd} (h : FitW a) (g : FitW b) : ∀ f ∈ [a, b], FitW f := fun f hf => by simp at hf; rcases hf with rfl | rfl <;> assumption
theorem sZero_fit : FitW sZero := (made_fit fit_nil fit_nil (by simp) (by simp)).1
theorem sOne_fit : FitW sOne := (made_fit (fit_one sZero_fit) fit_nil (by simp) (by simp)).1
theorem sLess_fit : FitW sLess := (made_fit fit_nil (fit_one sZero_fit) (by simp) (by simp)).1
theorem sStar_fit : FitW sStar := (made_fit (fit_one sZero_fit) (fit_one sZero_fit) (by simp) (by simp)).1
theorem sUp_fit : FitW sUp := (made_fit (fit_one sZero_fit) (fit_one sStar_fit) (by simp) (by simp)).1
theorem sHalf_fit : FitW sHalf := (made_fit (fit_one sZero_fit) (fit_one sOne_fit) (by simp) (by simp)).1
theorem sHot_fit : FitW sHot := (made_fit (fit_one sOne_fit) (fit_one sLess_fit) (by simp) (by simp)).1
theorem sTwo_fit : FitW sTwo := (made_fit (fit_two sZero_fit sStar_fit) (fit_two sZero_fit sStar_fit) (by simp) (by simp)).1
theorem sDown_fit : FitW sDown := (made_fit (fit_one sStar_fit) (fit_one sZero_fit) (by simp) (by simp)).1
theorem small_fit : ∀ f ∈ smallL, FitW f ∧ f.length ≤ 4 := fun f hf => by
  unfold smallL at hf
  simp only [List.mem_cons, List.not_mem_nil, or_false] at hf
  rcases hf with rfl | rfl | rfl | rfl | rfl | rfl | rfl | rfl | rfl
  · exact ⟨sZero_fit, by rw [sZero_is]; decide⟩
  · exact ⟨sOne_fit, by rw [sOne_is]; decide⟩
  · exact ⟨sLess_fit, by rw [sLess_is]; decide⟩
  · exact ⟨sStar_fit, by rw [sStar_is]; decide⟩
  · exact ⟨sUp_fit, sUp_len⟩
  · exact ⟨sHalf_fit, sHalf_len⟩
  · exact ⟨sHot_fit, sHot_len⟩
  · exact ⟨sTwo_fit, sTwo_len⟩
  · exact ⟨sDown_fit, sDown_len⟩
/-- how many nodes a game has that was put together so many times -/
def deepN : Nat → Nat
  | 0 => 4
  | n + 1 => 4 * deepN n + 1
theorem deepN_mono (n m : Nat) (h : n ≤ m) : deepN n ≤ deepN m := by
  induction m with
  | zero => have : n = 0 := by omega
            subst this; exact Nat.le_refl _
  | succ m ih =>
    rcases Nat.lt_or_ge n (m + 1) with h1 | h1
    · have := ih (by omega)
      simp only [deepN]
      omega
    · have : n = m + 1 := by omega
      subst this; exact Nat.le_refl _
theorem deepN_six : deepN 6 = 17749 := by decide
theorem deepN_five : deepN 5 = 4437 := by decide
end

section
open Go.RowKit
set_option linter.unusedVariables false
set_option linter.unusedSimpArgs false
/-- a drawn game: its nodes stand in a row of its own, apart from X -/
def DrF (s : Nat) (X : Nat → Prop) (w : World) (v : Value) (f : List Nd) : Prop := (∃ vs, LvN s (fun b => v.ownBlock = some b ∨ X b) w v vs f) ∧ ∀ b, v.ownBlock = some b → ¬ X b
theorem DrF.nodesZ {s : Nat} {X : Nat → Prop} {w : World} {v : Value} {f : List Nd} (h : DrF s X w v f) : NodesZ w s w.heap.size v (f.map upN) := by
  obtain ⟨⟨vs, h⟩, _⟩ := h
  exact h.nodesZ
theorem DrF.only {s : Nat} {X Y G : Nat → Prop} {w w' : World} {v : Value} {f : List Nd} (h : DrF s X w v f) (ho : Only w w' G) (hG : ∀ b, s ≤ b → b < w.heap.size → ¬ X b → ¬ G b ∧ ¬ Y b) : DrF s Y w' v f := by
  obtain ⟨⟨vs, h⟩, hx⟩ := h
  have hl := World.ownsRow.lt h.nodes
  refine ⟨⟨vs, h.only ho (fun g hg => (hG g (hl g hg).1 (hl g hg).2 (hx g hg)).1) (fun b h1 h2 h3 => ?_)⟩, fun g hg => (hG g (hl g hg).1 (hl g hg).2 (hx g hg)).2⟩
  have h4 := hG b h1 h2 (fun e => h3 (Or.inr e))
  exact ⟨h4.1, fun e => e.elim (fun e => h3 (Or.inl e)) h4.2⟩
theorem DrF.below {s : Nat} {X : Nat → Prop} {w w' : World} {v : Value} {f : List Nd} (h : DrF s X w v f) (hb : Below w.heap.size w w') : DrF s X w' v f :=
  h.only (Only.of_below (F := fun _ => False) hb) (fun _ _ _ h => ⟨id, h⟩)
theorem DrF.reX {s : Nat} {X Y : Nat → Prop} {w : World} {v : Value} {f : List Nd} (h : DrF s X w v f) (hY : ∀ b, s ≤ b → b < w.heap.size → Y b → X b) : DrF s Y w v f :=
  h.only (Only.refl w (fun _ => False)) (fun b h1 h2 h3 => ⟨id, fun e => h3 (hY b h1 h2 e)⟩)
theorem DrF.mono {s s' : Nat} {X : Nat → Prop} {w : World} {v : Value} {f : List Nd} (h : DrF s X w v f) (hs : s' ≤ s) : DrF s' X w v f := by
  obtain ⟨⟨vs, h⟩, hx⟩ := h
  exact ⟨⟨vs, World.ownsRow.mono h.nodes hs, h.len, fun j nd p h1 h2 => ⟨(h.inner j nd p h1 h2).1.only (Only.refl w (fun _ => False)) hs (fun _ _ _ h => ⟨id, h⟩), (h.inner j nd p h1 h2).2.only (Only.refl w (fun _ => False)) hs (fun _ _ _ h => ⟨id, h⟩)⟩⟩, hx⟩
theorem DrF.new {s : Nat} {w : World} {v : Value} {f : List Nd} (h : ∃ vs, LvN s (fun b => v.ownBlock = some b) w v vs f) (X : Nat → Prop) (hX : ∀ b, X b → b < s) : DrF s X w v f := by
  obtain ⟨vs, h⟩ := h
  have hl := World.ownsRow.lt h.nodes
  refine ⟨⟨vs, h.only (Only.refl w (fun _ => False)) (fun _ _ => id) (fun b h1 _ h3 => ⟨id, fun e => e.elim h3 (fun e => by have := hX b e; omega)⟩)⟩, fun b hb e => by have := (hl b hb).1; have := hX b e; omega⟩
theorem DrF.shape {s : Nat} {X : Nat → Prop} {w : World} {v : Value} {f : List Nd} (h : DrF s X w v f) : ∃ a c, v = .slice a f.length c := by
  obtain ⟨⟨vs, h⟩, _⟩ := h
  exact own_form' h.nodes
/-- a list of games that is told -/
theorem formsZ_lit {W : World} {lo : Nat} (us : List Value) (Fs : List (List Nd)) (T : TypeId) (hlen : us.length = Fs.length) (hlo : lo ≤ W.heap.size) (hm : us.length ≤ 1000) (h : ∀ (j : Nat) (u : Value) (f : List Nd), us[j]? = some u → Fs[j]? = some f → NodesZ W lo W.heap.size u (f.map upN)) :
    FormsZ (W.alloc (.cells us.toArray T)) lo (W.heap.size + 1) (.slice (some ⟨W.heap.size, 0, none⟩) us.length us.length) (Fs.map (fun f => f.map upN)) := by
  refine ⟨some ⟨W.heap.size, 0, none⟩, us.length, by rw [List.length_map, hlen], by rw [List.length_map]; omega, fun j g hj => ?_⟩
  rw [List.getElem?_map] at hj
  cases hf : Fs[j]? with
  | none => rw [hf] at hj; cases hj
  | some f =>
    rw [hf] at hj
    simp only [Option.map_some, Option.some.injEq] at hj
    subst hj
    obtain ⟨u, hu⟩ := lt_get (l := us) (i := j) (by rw [hlen]; exact get_lt hf)
    refine ⟨W.heap.size, 0, u, rfl, hlo, by omega, ?_, ((h j u f hu hf).below ((Below.refl _ _).alloc (Nat.le_refl _) _) (Nat.le_refl _)).wide (Nat.le_refl _) (by omega)⟩
    rw [Nat.zero_add, cell_of_row _ _ _ us.toArray _ (0, 0) (heap_alloc_new _ _)]
    simpa using hu
/-- games together -/
def SetF (s : Nat) (w : World) (us : List Value) (Fs : List (List Nd)) : Prop := ∀ (j : Nat) (u : Value) (f : List Nd), us[j]? = some u → Fs[j]? = some f → NodesZ w s w.heap.size u (f.map upN)
theorem setF_one {s : Nat} {w : World} {u : Value} {f : List Nd} (h : NodesZ w s w.heap.size u (f.map upN)) : SetF s w [u] [f] := fun j u' f' h1 h2 => by
  have := get_lt h1
  simp at this
  subst this
  simp at h1 h2
  subst h1 h2
  exact h
theorem setF_two {s : Nat} {w : World} {u u' : Value} {f f' : List Nd} (h : NodesZ w s w.heap.size u (f.map upN)) (h' : NodesZ w s w.heap.size u' (f'.map upN)) : SetF s w [u, u'] [f, f'] := fun j v g h1 h2 => by
  have := get_lt h1
  simp at this
  rcases (show j = 0 ∨ j = 1 by omega) with rfl | rfl
  · simp at h1 h2
    subst h1 h2
    exact h
  · simp at h1 h2
    subst h1 h2
    exact h'
/-- l3Make of lists that are told: left and right -/
theorem makeBoth_calls (s : Nat) (us vs : List Value) (Ls Rs : List (List Nd)) (T : TypeId) (w : World) (hs : s ≤ w.heap.size) (h1 : us.length = Ls.length) (h2 : vs.length = Rs.length) (hu : SetF s w us Ls) (hv : SetF s w vs Rs) (fl : ∀ f ∈ Ls, FitW f) (fr : ∀ f ∈ Rs, FitW f) (n1 : us.length ≤ 200) (n2 : vs.length ≤ 200) (hN : totL Ls + totL Rs ≤ 80000) :
    Calls Try.prog 55 #[.slice (some ⟨w.heap.size, 0, none⟩) us.length us.length, .slice (some ⟨w.heap.size + 1, 0, none⟩) vs.length vs.length] ((w.alloc (.cells us.toArray T)).alloc (.cells vs.toArray T)) fun e w' => ∃ v, e = .returned (.agg #[v]) ∧ DrF w.heap.size (fun _ => False) w' v (formM (mkD Ls Rs)) ∧ Below w.heap.size w w' := by
  have hz : (w.alloc (.cells us.toArray T)).heap.size = w.heap.size + 1 := by simp
  have hz2 : ((w.alloc (.cells us.toArray T)).alloc (.cells vs.toArray T)).heap.size = w.heap.size + 2 := by simp
  have b1 : Below w.heap.size w (w.alloc (.cells us.toArray T)) := (Below.refl _ _).alloc (Nat.le_refl _) _
  have b2 : Below (w.heap.size + 1) (w.alloc (.cells us.toArray T)) ((w.alloc (.cells us.toArray T)).alloc (.cells vs.toArray T)) := (Below.refl _ _).alloc (by omega) _
  have hl := (formsZ_lit us Ls T h1 hs (by omega) hu).below b2 (Nat.le_refl _)
  have hr := formsZ_lit (W := w.alloc (.cells us.toArray T)) (lo := s) vs Rs T h2 (by omega) (by omega) (fun j u f hj hf => ((hv j u f hj hf).below b1 (Nat.le_refl _)).wide (Nat.le_refl _) (by omega))
  rw [hz] at hr
  refine (l3MakeL_calls _ _ Ls Rs _ s (w.heap.size + 1) s (w.heap.size + 1 + 1) (by omega) (by omega) hl hr fl fr (by omega) (by omega) hN).mono ?_
  rintro e w' ⟨v, rfl, hv', hb⟩
  exact ⟨v, rfl, (DrF.new hv' (fun _ => False) (fun _ h => h.elim)).mono (by omega), (b1.trans (b2.mono (by omega))).trans (hb.mono (by omega))⟩
theorem makeLeft_calls (s : Nat) (us : List Value) (Ls : List (List Nd)) (T : TypeId) (w : World) (hs : s ≤ w.heap.size) (h1 : us.length = Ls.length) (hu : SetF s w us Ls) (fl : ∀ f ∈ Ls, FitW f) (n1 : us.length ≤ 200) (hN : totL Ls ≤ 80000) :
    Calls Try.prog 55 #[.slice (some ⟨w.heap.size, 0, none⟩) us.length us.length, .slice none 0 0] (w.alloc (.cells us.toArray T)) fun e w' => ∃ v, e = .returned (.agg #[v]) ∧ DrF w.heap.size (fun _ => False) w' v (formM (mkD Ls [])) ∧ Below w.heap.size w w' := by
  have hz : (w.alloc (.cells us.toArray T)).heap.size = w.heap.size + 1 := by simp
  have b1 : Below w.heap.size w (w.alloc (.cells us.toArray T)) := (Below.refl _ _).alloc (Nat.le_refl _) _
  have hl := formsZ_lit us Ls T h1 hs (by omega) hu
  refine (l3MakeL_calls _ _ Ls [] _ s (w.heap.size + 1) 0 0 (by omega) (by omega) hl (FormsZ.nil _ _ _) fl fit_nil (by omega) (by simp) (by simpa [totL] using hN)).mono ?_
  rintro e w' ⟨v, rfl, hv', hb⟩
  exact ⟨v, rfl, (DrF.new hv' (fun _ => False) (fun _ h => h.elim)).mono (by omega), b1.trans (hb.mono (by omega))⟩
theorem makeRight_calls (s : Nat) (us : List Value) (Ls : List (List Nd)) (T : TypeId) (w : World) (hs : s ≤ w.heap.size) (h1 : us.length = Ls.length) (hu : SetF s w us Ls) (fl : ∀ f ∈ Ls, FitW f) (n1 : us.length ≤ 200) (hN : totL Ls ≤ 80000) :
    Calls Try.prog 55 #[.slice none 0 0, .slice (some ⟨w.heap.size, 0, none⟩) us.length us.length] (w.alloc (.cells us.toArray T)) fun e w' => ∃ v, e = .returned (.agg #[v]) ∧ DrF w.heap.size (fun _ => False) w' v (formM (mkD [] Ls)) ∧ Below w.heap.size w w' := by
  have hz : (w.alloc (.cells us.toArray T)).heap.size = w.heap.size + 1 := by simp
  have b1 : Below w.heap.size w (w.alloc (.cells us.toArray T)) := (Below.refl _ _).alloc (Nat.le_refl _) _
  have hl := formsZ_lit us Ls T h1 hs (by omega) hu
  refine (l3MakeL_calls _ _ [] Ls _ 0 0 s (w.heap.size + 1) (by omega) (by omega) (FormsZ.nil _ _ _) hl fit_nil fl (by simp) (by omega) (by simpa [totL] using hN)).mono ?_
  rintro e w' ⟨v, rfl, hv', hb⟩
  exact ⟨v, rfl, (DrF.new hv' (fun _ => False) (fun _ h => h.elim)).mono (by omega), b1.trans (hb.mono (by omega))⟩
theorem makeNone_calls (w : World) :
    Calls Try.prog 55 #[.slice none 0 0, .slice none 0 0] w fun e w' => ∃ v, e = .returned (.agg #[v]) ∧ DrF w.heap.size (fun _ => False) w' v (formM (mkD [] [])) ∧ Below w.heap.size w w' := by
  refine (l3MakeL_calls _ _ [] [] _ 0 0 0 0 (by omega) (by omega) (FormsZ.nil _ _ _) (FormsZ.nil _ _ _) fit_nil fit_nil (by simp) (by simp) (by simp [totL])).mono ?_
  rintro e w' ⟨v, rfl, hv', hb⟩
  exact ⟨v, rfl, DrF.new hv' (fun _ => False) (fun _ h => h.elim), hb⟩
end

section
open Go.RowKit
set_option linter.unusedVariables false
set_option linter.unusedSimpArgs false
theorem infoFormA : (Try.prog.info? 28).map (fun i => (i.zero, i.size, i.bytes)) = some (some (.agg #[.slice none 0 0]), 1, 24) := by kernel_rfl
theorem OwnFS.put {w : World} {base j g c N : Nat} {ps : List (Value × List (Value × Value))} {Fs : List (List Nz)} {f : List Nz} {p : Value × List (Value × Value)} (h : OwnFS w base (.slice (some ⟨g, 0, none⟩) Fs.length c) ps Fs) (hj : j < Fs.length) (hf : OwnF w base p.1 p.2 f)
    (hN : ∀ b, AllF p b → N ≤ b) (hlt : ∀ b, AllFS (.slice (some ⟨g, 0, none⟩) Fs.length c) ps b → b < N) : OwnFS (w.setCell ⟨g, j, none⟩ p.1) base (.slice (some ⟨g, 0, none⟩) Fs.length c) (ps.set j p) (Fs.set j f) := by
  have s1 := World.ownsRow.stored h.row j p.1
  rw [← List.map_set] at s1
  have hv : (Value.slice (some ⟨g, 0, none⟩) Fs.length c).ownBlock = some g := rfl
  have hgN := hlt g (Or.inl hv)
  have ho : Only w (w.setCell ⟨g, j, none⟩ p.1) (fun b => b = g) := Only.of_set (F := fun b => b = g) (p := ⟨g, j, none⟩) p.1 rfl
  have hpl : ∀ (i : Nat) (q : Value × List (Value × Value)), ps[i]? = some q → ∀ b, AllF q b → b < N := fun i q hq b hb => hlt b (Or.inr ⟨i, q, hq, hb⟩)
  refine ⟨by rw [List.length_set]; exact s1.1, by rw [List.length_set, List.length_set]; exact h.len, fun i n0 q hi hq => ?_, fun i q hq => ?_, fun i k q r hne hq hr => ?_⟩
  · rcases set_get hi with ⟨e1, e2⟩ | ⟨hne, hi⟩
    · rcases set_get hq with ⟨_, e3⟩ | ⟨e, _⟩
      · rw [e2, e3]
        exact hf.apart ho (fun b hb e => by have := hN b hb; omega)
      · exact absurd e1 e
    · rcases set_get hq with ⟨e, _⟩ | ⟨_, hq⟩
      · exact absurd e hne
      · exact (h.each i n0 q hi hq).apart ho (fun b hb e => h.two i q hq b hb (by rw [hv, e]))
  · rcases set_get hq with ⟨_, e3⟩ | ⟨_, hq⟩
    · intro b hb e
      rw [e3] at hb
      rw [hv] at e
      injection e with e
      have := hN b hb
      omega
    · exact h.two i q hq
  · rcases set_get hq with ⟨e1, e2⟩ | ⟨h3, hq2⟩
    · rcases set_get hr with ⟨e3, _⟩ | ⟨h4, hr2⟩
      · exact absurd (e1.trans e3.symm) hne
      · intro b hb hb2
        rw [e2] at hb
        have := hN b hb
        have := hpl k r hr2 b hb2
        omega
    · rcases set_get hr with ⟨e3, e4⟩ | ⟨h4, hr2⟩
      · intro b hb hb2
        rw [e4] at hb2
        have := hN b hb2
        have := hpl i q hq2 b hb
        omega
      · exact h.sep i k q r hne hq2 hr2
theorem allF_nil (b : Nat) : ¬ AllF (.slice none 0 0, []) b := by
  rintro (h | ⟨i, p, h, _⟩)
  · cases h
  · simp at h
/-- a row of empty forms -/
theorem ownFS_made {w : World} {base g n : Nat} (h : w.ownsRow base 28 1 (.slice (some ⟨g, 0, none⟩) n n) n (List.replicate n (.slice none 0 0))) : OwnFS w base (.slice (some ⟨g, 0, none⟩) n n) (List.replicate n (.slice none 0 0, [])) (List.replicate n []) := by
  have hm : ∀ (j : Nat) (p : Value × List (Value × Value)), (List.replicate n ((.slice none 0 0, []) : Value × List (Value × Value)))[j]? = some p → p = (.slice none 0 0, []) := fun j p hp => (List.mem_replicate.1 (List.mem_of_getElem? hp)).2
  refine ⟨by rw [List.length_replicate, List.map_replicate]; exact h, by simp, fun j f p hf hp => ?_, fun j p hp b hb => ?_, fun i j p q _ hp _ b hb => ?_⟩
  · rw [hm j p hp, (List.mem_replicate.1 (List.mem_of_getElem? hf)).2]
    exact OwnF.nil _ _
  · rw [hm j p hp] at hb
    exact absurd hb (allF_nil b)
  · rw [hm i p hp] at hb
    exact absurd hb (allF_nil b)
end

section
open Go.RowKit
set_option linter.unusedVariables false
set_option linter.unusedSimpArgs false
theorem setF_push {s hi : Nat} {w : World} {us : List Value} {Gs : List (List Nd)} {u : Value} {f : List Nd} (h : ∀ (j : Nat) (u : Value) (f : List Nd), us[j]? = some u → Gs[j]? = some f → NodesZ w s hi u (f.map upN)) (hl : us.length = Gs.length) (hu : NodesZ w s hi u (f.map upN)) :
    ∀ (j : Nat) (u' : Value) (f' : List Nd), (us ++ [u])[j]? = some u' → (Gs ++ [f])[j]? = some f' → NodesZ w s hi u' (f'.map upN) := fun j u' f' h1 h2 => by
  rcases Nat.lt_or_ge j us.length with hlt | hge
  · rw [List.getElem?_append_left hlt] at h1
    rw [List.getElem?_append_left (by omega)] at h2
    exact h j u' f' h1 h2
  · have hj := get_lt h1
    simp at hj
    have : j = us.length := by omega
    subst this
    rw [List.getElem?_append_right (Nat.le_refl _)] at h1
    rw [hl, List.getElem?_append_right (Nat.le_refl _)] at h2
    simp at h1 h2
    subst h1 h2
    exact hu
/-- a row of games that are read -/
theorem formsZ_row {w : World} {s hi base : Nat} {v : Value} {us : List Value} {Gs : List (List Nd)} (h : w.ownsRow base 28 1 v Gs.length us) (hl : us.length = Gs.length) (hn : ∀ (j : Nat) (u : Value) (f : List Nd), us[j]? = some u → Gs[j]? = some f → NodesZ w s hi u (f.map upN)) (hs : s ≤ base) (hh : hi ≤ w.heap.size) :
    FormsZ w s w.heap.size v (Gs.map (fun f => f.map upN)) := by
  rcases h.2 with ⟨h1, h0⟩ | ⟨g, c, cs, h1, _⟩
  · have : Gs = [] := List.length_eq_zero_iff.1 h0
    subst this
    exact ⟨none, 0, by rw [h1]; rfl, by simp, fun j f hj => by simp at hj⟩
  · subst h1
    have hlt := World.ownsRow.lt h _ rfl
    refine ⟨_, c, by rw [List.length_map], by rw [List.length_map]; exact World.ownsRow.caps h, fun j f hj => ?_⟩
    rw [List.getElem?_map] at hj
    cases hf : Gs[j]? with
    | none => rw [hf] at hj; cases hj
    | some f' =>
      rw [hf] at hj
      simp only [Option.map_some, Option.some.injEq] at hj
      subst hj
      obtain ⟨u, hu⟩ := lt_get (l := us) (i := j) (by rw [hl]; exact get_lt hf)
      exact ⟨g, 0, u, rfl, by omega, hlt.2, by rw [Nat.zero_add, World.ownsRow.cellAt h j (by have := get_lt hf; omega), hu], (hn j u f' hu hf).wide (Nat.le_refl _) hh⟩
set_option maxRecDepth 100000 in
set_option maxHeartbeats 4000000 in
theorem some_calls (W0 w : World) (q n N : Nat) (v : Value) (hc : CodeIn W0 v n) (hn : n ≤ 1000000) (h : Cur W0 w q v N) (vl : Value) (Fs : List (List Nd)) (s m : Nat) (hN : N + 2 * (m + 2) ≤ 80000) (hs : s ≤ w.heap.size) (hq : q < s) (hl : FormsZ w s w.heap.size vl (Fs.map (fun f => f.map upN))) (h0 : 0 < Fs.length) (h1 : Fs.length ≤ 1000) (hm : m ≤ 100) :
    Calls Try.prog 62 #[.pointer (some ⟨q, 0, none⟩), vl, .int .i64 m] w fun e w' => ∃ (a : Option Addr) (c : Nat) (Gs : List (List Nd)), e = .returned (.slice a Gs.length c) ∧ Gs.length ≤ m ∧ (∀ g ∈ Gs, g ∈ Fs) ∧ FormsZ w' s w'.heap.size (.slice a Gs.length c) (Gs.map (fun f => f.map upN)) ∧ Cur W0 w' q v (N + 2 * (m + 1)) ∧ Only w w' (fun b => b = q) := by
  obtain ⟨i0, hi0, hz0, hz1, hz2⟩ := info_parts infoFormA
  have HQ := Lib.hid hq
  obtain ⟨ao, c, rfl, hcap, hL⟩ := hl
  rw [List.length_map] at hcap ⊢
  have HL := Lib.hid hL
  have hW0 : W0.heap.size ≤ w.heap.size := h.2.1.size
  have hq0 := h.1
  have HP := Lib.hid fun (W : World) (M k : Nat) (hM : M ≤ 90000) (hk : 1 ≤ k) (hk2 : k ≤ 100000) (hW : Cur W0 W q v M) => pick_calls W0 W q n M k v hc hn hW hM hk hk2
  have hal : Below w.heap.size w (w.alloc (.cells #[] 28)) := (Below.refl _ _).alloc (Nat.le_refl _) _
  have HC0 := Lib.hid (h.below hal)
  have HR0 : Hid ((w.alloc (.cells #[] 28)).ownsRow w.heap.size 28 1 (.slice (some ⟨w.heap.size, 0, none⟩) 0 0) 0 []) := Lib.hid (World.ownsRow_lit (base := w.heap.size) (e := 28) (size := 1) w #[] 0 (Nat.le_refl _) (by unfold maxLen; omega) rfl)
  have HO0 : Hid (Only w (w.alloc (.cells #[] 28)) (fun b => b = q)) := Lib.hid (Only.of_below hal)
  have hw1 : IntKind.i64.wrap ((m : Int) + 1) = ((m + 1 : Nat) : Int) := by rw [IntWalk.i64_in _ (by omega)]; omega
  clear h hc hn hL hal
  go_enter Try.func62, Try.ntmps62
  go_wp2_with fail
  have CP := HP.out _ N (m + 1) (by omega) (by omega) (by omega) HC0.out
  first | (rw [show ((m + 1 : Nat) : Int) = (m : Int) + 1 by omega] at CP) | skip
  refine CP.mono ?_
  rintro e w1 ⟨⟨r, hr, rfl⟩, hc1, hg1⟩
  have HC1 := Lib.hid hc1
  have HO1 : Hid (Only w w1 (fun b => b = q)) := Lib.hid (HO0.out.trans (only_cur hg1) (fun _ _ h => h))
  have HR1 : Hid (w1.ownsRow w.heap.size 28 1 (.slice (some ⟨w.heap.size, 0, none⟩) 0 0) 0 []) := Lib.hid (own_only HR0.out (only_cur hg1) (fun g e1 e2 => by have e3 : w.heap.size = g := (by injection e1); omega))
  clear hc1 hg1 CP HC0 HR0 HO0
  go_wp2
  go_loopw [7, 9] (fun q7 i wr => ∃ (k : Nat) (a : Option Addr) (c' : Nat) (us : List Value) (Gs : List (List Nd)), k ≤ r ∧ i = .int .i64 k ∧ q7 = .slice a k c' ∧ Gs.length = k ∧ us.length = k ∧ Hid (wr.ownsRow w.heap.size 28 1 (.slice a k c') k us) ∧ Hid (∀ g ∈ Gs, g ∈ Fs) ∧ Hid (∀ (j : Nat) (u : Value) (f : List Nd), us[j]? = some u → Gs[j]? = some f → NodesZ w s w.heap.size u (f.map upN)) ∧ Hid (Cur W0 wr q v (N + 2 * (k + 1))) ∧ Hid (Only w wr (fun b => b = q))) (fun _ i _ => r - (intOf i).toNat)
  case atStart => exact ⟨0, some ⟨w.heap.size, 0, none⟩, 0, [], [], Nat.zero_le _, rfl, rfl, rfl, rfl, HR1, Lib.hid (fun g hg => by simp at hg), Lib.hid (fun j u f hj _ => by simp at hj), Lib.hid (HC1.out.mono (by omega)), HO1⟩
  case round =>
    obtain ⟨k, a, c', us, Gs, hk, rfl, rfl, hG, hu, hR, hS, hZ, hC, hO⟩ := hrel
    clear HR1 HC1 HO1
    have hsz := hO.out.size
    by_cases hlt : k < r
    · have b0 : (0 : Int) ≤ k := by omega
      have b1 : (k : Int) < r := by omega
      go_wp2_with fail
      refine (HP.out wr (N + 2 * (k + 1)) Fs.length (by omega) (by omega) (by omega) hC.out).mono ?_
      rintro e w2 ⟨⟨r2, hr2, rfl⟩, hc2, hg2⟩
      obtain ⟨f, hf⟩ := lt_get hr2
      obtain ⟨b, off, u, rfl, hb1, hb2, p1, i1⟩ := HL.out r2 (f.map upN) (by rw [List.getElem?_map, hf]; rfl)
      have ho2 : Only w w2 (fun b => b = q) := hO.out.trans (only_cur hg2) (fun _ _ h => h)
      have p2 : w2.cell? ⟨b, off + r2, none⟩ = some u := (ho2.cell hb2 (by have := HQ.out; omega)).trans p1
      obtain ⟨au, cu, hu1⟩ : ∃ a c, u = .slice a f.length c := by obtain ⟨a, c, e, _⟩ := i1; exact ⟨a, c, by rw [e, List.length_map]⟩
      subst hu1
      have hR2 := own_only hR.out (only_cur hg2) (fun g e1 e2 => by have := (World.ownsRow.lt hR.out g e1).1; have := HQ.out; omega)
      have HR2 := Lib.hid (World.ownsRow.alloc hR2 (.cells #[.slice au f.length cu] 28))
      have HZ2 := Lib.hid (setF_push hZ.out (by omega) i1)
      have HS2 : Hid (∀ g ∈ Gs ++ [f], g ∈ Fs) := Lib.hid (fun g hg => by
        rcases List.mem_append.1 hg with h | h
        · exact hS.out g h
        · rw [List.mem_singleton] at h; rw [h]; exact List.mem_of_getElem? hf)
      have HC2 := Lib.hid hc2
      have HO2 := Lib.hid ho2
      have hsz2 := ho2.size
      have c0 : (0 : Int) ≤ r2 := by omega
      have c1 : (r2 : Int) < Fs.length := by omega
      clear hc2 hg2 ho2 hR hZ hS hC hO i1 hf p1 hR2
      go_wp2_with (at_builtin; refine wpList_append_own_at _ rfl _ _ 24 rfl w.heap.size 28 i0 (.agg #[.slice none 0 0]) 1 24 Try.underlying24 hi0 hz0 hz1 hz2 rfl (by decide) _ _ _ rfl HR2.out ⟨w2.heap.size, 0, none⟩ 1 1 [.slice au f.length cu] rfl rfl (cell_one_new _ _ _) (by simp [Value.oneCell']) (by unfold maxLen; omega) (by omega) (by simp; omega) ?_; intro v7 w7 hown7 hgrow7 hnil7 hat7)
      obtain ⟨g7, c7, rfl, _, _⟩ := hown7.form (by omega)
      have hl2 : Below w2.heap.size w2 (w2.alloc (.cells #[.slice au f.length cu] 28)) := (Below.refl _ _).alloc (Nat.le_refl _) _
      have hfar : Only w2 w7 (fun b => w.heap.size ≤ b) := (Only.of_below (F := fun b => w.heap.size ≤ b) hl2).trans (Only.of_grown (F := fun b => w.heap.size ≤ b) hgrow7 (fun g e => (World.ownsRow.lt HR2.out g e).1)) (fun _ _ h => h)
      have HC7 := Lib.hid (HC2.out.only hfar (fun g h => by omega) (by have := HQ.out; omega))
      have HO7 : Hid (Only w w7 (fun b => b = q)) := Lib.hid (HO2.out.trans hfar (fun i hi h => by omega))
      have HR7 := Lib.hid hown7
      clear hown7 hgrow7 hnil7 hat7 hl2 hfar HC2 HO2 HR2
      go_wp2
      go_roundw
      case rel => exact ⟨k + 1, some ⟨g7, 0, none⟩, c7, us ++ [.slice au f.length cu], Gs ++ [f], by omega, by go_num, rfl, by simp; omega, by simp; omega, HR7, HS2, HZ2, HC7, HO7⟩
      case measure => simp [intOf]; omega
    · have hke : k = r := by omega
      subst hke
      have HF : Hid (FormsZ wr s wr.heap.size (.slice a Gs.length c') (Gs.map (fun f => f.map upN))) := Lib.hid (formsZ_row (hi := w.heap.size) (by rw [hG]; exact hR.out) (by omega) (fun j u f h1 h2 => (hZ.out j u f h1 h2).keep (fun b o g1 g2 => hO.out.cell g2 (by have := HQ.out; omega))) hs hsz)
      clear hR hZ
      go_wp2
      go_ret
      exact ⟨a, c', Gs, by rw [hG]; rfl, by omega, hS.out, HF.out, hC.out.mono (by omega), hO.out⟩
end

section
open Go.RowKit
set_option linter.unusedVariables false
set_option linter.unusedSimpArgs false
theorem box_keep {w w' : World} {b : Nat} {v : Value} (h : w.cell? ⟨b, 0, none⟩ = some v) (hb : Below w.heap.size w w') : w'.cell? ⟨b, 0, none⟩ = some v := (bcell hb _ _ (block_of_cell h)).trans h
set_option maxRecDepth 100000 in
set_option maxHeartbeats 20000000 in
theorem small_calls (w : World) :
    Calls Try.prog 61 #[] w fun e w' => ∃ g us, e = .returned (.slice (some ⟨g, 0, none⟩) 9 9) ∧ w'.ownsRow w.heap.size 28 1 (.slice (some ⟨g, 0, none⟩) 9 9) 9 us ∧ us.length = 9 ∧ (∀ (j : Nat) (u : Value) (f : List Nd), us[j]? = some u → smallL[j]? = some f → DrF w.heap.size (fun b => b = g) w' u f) ∧ Below w.heap.size w w' := by
  have HB : Hid (Below w.heap.size w w) := Lib.hid (Below.refl _ _)
  have hz0 : w.heap.size ≤ w.heap.size := Nat.le_refl _
  go_enter Try.func61, Try.ntmps61
  go_upto_region 1 with fail
  have C := Lib.hid (makeNone_calls w)
  go_wp2_with fail
  refine C.out.mono ?_
  rintro e x0 ⟨v0, rfl, hd, hb⟩
  have hd : DrF w.heap.size (fun _ => False) x0 v0 sZero := hd
  have hbx : Below x0.heap.size x0 (x0.alloc (.cells #[v0] 28)) := (Below.refl _ _).alloc (Nat.le_refl _) _
  have hbb : Below w.heap.size w (x0.alloc (.cells #[v0] 28)) := hb.trans (hbx.mono hb.size)
  have kn : (x0.alloc (.cells #[v0] 28)).cell? ⟨x0.heap.size, 0, none⟩ = some v0 := by go_simp
  have hdx := (hd.mono hz0).below hbx
  obtain ⟨av0, cv0, hsh0⟩ := hd.shape
  have HBN := Lib.hid (HB.out.trans (hbb.mono HB.out.size))
  subst hsh0
  go_upto_region 2 with fail
  generalize hX : (x0.alloc (.cells #[Value.slice av0 sZero.length cv0] 28)) = w1 at hdx kn HBN ⊢
  generalize x0.heap.size = b0 at kn ⊢
  obtain ⟨v0, hv0⟩ : ∃ v, v = Value.slice av0 sZero.length cv0 := ⟨_, rfl⟩
  rw [← hv0] at hdx kn ⊢
  have K0 := kn
  have D0 := Lib.hid hdx
  have hz0 : w.heap.size ≤ w1.heap.size := HBN.out.size
  clear HB
  have HB := HBN
  clear HBN hX hdx kn hb hd hbx hbb C hv0
  go_upto_region 2 with fail
  have C := Lib.hid (makeLeft_calls w.heap.size [v0] [sZero] 28 w1 hz0 rfl (setF_one D0.out.nodesZ) (fit_one sZero_fit) (by simp) (by have := sZero_le; simp only [totL, List.map_cons, List.map_nil, List.sum_cons, List.sum_nil]; omega))
  go_wp2_with fail
  refine C.out.mono ?_
  rintro e x1 ⟨v1, rfl, hd, hb⟩
  have hd : DrF w1.heap.size (fun _ => False) x1 v1 sOne := hd
  have hbx : Below x1.heap.size x1 (x1.alloc (.cells #[v1] 28)) := (Below.refl _ _).alloc (Nat.le_refl _) _
  have hbb : Below w1.heap.size w1 (x1.alloc (.cells #[v1] 28)) := hb.trans (hbx.mono hb.size)
  have kn : (x1.alloc (.cells #[v1] 28)).cell? ⟨x1.heap.size, 0, none⟩ = some v1 := by go_simp
  have hdx := (hd.mono hz0).below hbx
  obtain ⟨av1, cv1, hsh1⟩ := hd.shape
  have HBN := Lib.hid (HB.out.trans (hbb.mono HB.out.size))
  have D0 := Lib.hid (D0.out.below hbb)
  have K0 := box_keep K0 hbb
  subst hsh1
  go_upto_region 3 with fail
  generalize hX : (x1.alloc (.cells #[Value.slice av1 sOne.length cv1] 28)) = w2 at hdx kn HBN D0 K0 ⊢
  generalize x1.heap.size = b1 at kn ⊢
  obtain ⟨v1, hv1⟩ : ∃ v, v = Value.slice av1 sOne.length cv1 := ⟨_, rfl⟩
  rw [← hv1] at hdx kn ⊢
  have K1 := kn
  have D1 := Lib.hid hdx
  have hz0 : w.heap.size ≤ w2.heap.size := HBN.out.size
  clear HB
  have HB := HBN
  clear HBN hX hdx kn hb hd hbx hbb C hv1
  go_upto_region 3 with fail
  have C := Lib.hid (makeRight_calls w.heap.size [v0] [sZero] 28 w2 hz0 rfl (setF_one D0.out.nodesZ) (fit_one sZero_fit) (by simp) (by have := sZero_le; simp only [totL, List.map_cons, List.map_nil, List.sum_cons, List.sum_nil]; omega))
  go_wp2_with fail
  refine C.out.mono ?_
  rintro e x2 ⟨v2, rfl, hd, hb⟩
  have hd : DrF w2.heap.size (fun _ => False) x2 v2 sLess := hd
  have hbx : Below x2.heap.size x2 (x2.alloc (.cells #[v2] 28)) := (Below.refl _ _).alloc (Nat.le_refl _) _
  have hbb : Below w2.heap.size w2 (x2.alloc (.cells #[v2] 28)) := hb.trans (hbx.mono hb.size)
  have kn : (x2.alloc (.cells #[v2] 28)).cell? ⟨x2.heap.size, 0, none⟩ = some v2 := by go_simp
  have hdx := (hd.mono hz0).below hbx
  obtain ⟨av2, cv2, hsh2⟩ := hd.shape
  have HBN := Lib.hid (HB.out.trans (hbb.mono HB.out.size))
  have D0 := Lib.hid (D0.out.below hbb)
  have K0 := box_keep K0 hbb
  have D1 := Lib.hid (D1.out.below hbb)
  have K1 := box_keep K1 hbb
  subst hsh2
  go_upto_region 4 with fail
  generalize hX : (x2.alloc (.cells #[Value.slice av2 sLess.length cv2] 28)) = w3 at hdx kn HBN D0 K0 D1 K1 ⊢
  generalize x2.heap.size = b2 at kn ⊢
  obtain ⟨v2, hv2⟩ : ∃ v, v = Value.slice av2 sLess.length cv2 := ⟨_, rfl⟩
  rw [← hv2] at hdx kn ⊢
  have K2 := kn
  have D2 := Lib.hid hdx
  have hz0 : w.heap.size ≤ w3.heap.size := HBN.out.size
  clear HB
  have HB := HBN
  clear HBN hX hdx kn hb hd hbx hbb C hv2
  go_upto_region 4 with fail
  have KA0 : (w3.alloc (.cells #[v0] 28)).cell? ⟨b0, 0, none⟩ = some v0 := box_keep K0 ((Below.refl _ _).alloc (Nat.le_refl _) _)
  have C := Lib.hid (makeBoth_calls w.heap.size [v0] [v0] [sZero] [sZero] 28 w3 hz0 rfl rfl (setF_one D0.out.nodesZ) (setF_one D0.out.nodesZ) (fit_one sZero_fit) (fit_one sZero_fit) (by simp) (by simp) (by have := sZero_le; simp only [totL, List.map_cons, List.map_nil, List.sum_cons, List.sum_nil]; omega))
  go_wp2_with fail
  refine C.out.mono ?_
  rintro e x3 ⟨v3, rfl, hd, hb⟩
  have hd : DrF w3.heap.size (fun _ => False) x3 v3 sStar := hd
  have hbx : Below x3.heap.size x3 (x3.alloc (.cells #[v3] 28)) := (Below.refl _ _).alloc (Nat.le_refl _) _
  have hbb : Below w3.heap.size w3 (x3.alloc (.cells #[v3] 28)) := hb.trans (hbx.mono hb.size)
  have kn : (x3.alloc (.cells #[v3] 28)).cell? ⟨x3.heap.size, 0, none⟩ = some v3 := by go_simp
  have hdx := (hd.mono hz0).below hbx
  obtain ⟨av3, cv3, hsh3⟩ := hd.shape
  have HBN := Lib.hid (HB.out.trans (hbb.mono HB.out.size))
  have D0 := Lib.hid (D0.out.below hbb)
  have K0 := box_keep K0 hbb
  have D1 := Lib.hid (D1.out.below hbb)
  have K1 := box_keep K1 hbb
  have D2 := Lib.hid (D2.out.below hbb)
  have K2 := box_keep K2 hbb
  clear KA0
  subst hsh3
  go_upto_region 5 with fail
  generalize hX : (x3.alloc (.cells #[Value.slice av3 sStar.length cv3] 28)) = w4 at hdx kn HBN D0 K0 D1 K1 D2 K2 ⊢
  generalize x3.heap.size = b3 at kn ⊢
  obtain ⟨v3, hv3⟩ : ∃ v, v = Value.slice av3 sStar.length cv3 := ⟨_, rfl⟩
  rw [← hv3] at hdx kn ⊢
  have K3 := kn
  have D3 := Lib.hid hdx
  have hz0 : w.heap.size ≤ w4.heap.size := HBN.out.size
  clear HB
  have HB := HBN
  clear HBN hX hdx kn hb hd hbx hbb C hv3
  go_upto_region 5 with fail
  have KA3 : (w4.alloc (.cells #[v0] 28)).cell? ⟨b3, 0, none⟩ = some v3 := box_keep K3 ((Below.refl _ _).alloc (Nat.le_refl _) _)
  have C := Lib.hid (makeBoth_calls w.heap.size [v0] [v3] [sZero] [sStar] 28 w4 hz0 rfl rfl (setF_one D0.out.nodesZ) (setF_one D3.out.nodesZ) (fit_one sZero_fit) (fit_one sStar_fit) (by simp) (by simp) (by have := sZero_le; have := sStar_le; simp only [totL, List.map_cons, List.map_nil, List.sum_cons, List.sum_nil]; omega))
  go_wp2_with fail
  refine C.out.mono ?_
  rintro e x4 ⟨v4, rfl, hd, hb⟩
  have hd : DrF w4.heap.size (fun _ => False) x4 v4 sUp := hd
  have hbx : Below x4.heap.size x4 (x4.alloc (.cells #[v4] 28)) := (Below.refl _ _).alloc (Nat.le_refl _) _
  have hbb : Below w4.heap.size w4 (x4.alloc (.cells #[v4] 28)) := hb.trans (hbx.mono hb.size)
  have kn : (x4.alloc (.cells #[v4] 28)).cell? ⟨x4.heap.size, 0, none⟩ = some v4 := by go_simp
  have hdx := (hd.mono hz0).below hbx
  obtain ⟨av4, cv4, hsh4⟩ := hd.shape
  have HBN := Lib.hid (HB.out.trans (hbb.mono HB.out.size))
  have D0 := Lib.hid (D0.out.below hbb)
  have K0 := box_keep K0 hbb
  have D1 := Lib.hid (D1.out.below hbb)
  have K1 := box_keep K1 hbb
  have D2 := Lib.hid (D2.out.below hbb)
  have K2 := box_keep K2 hbb
  have D3 := Lib.hid (D3.out.below hbb)
  have K3 := box_keep K3 hbb
  clear KA3
  subst hsh4
  go_upto_region 6 with fail
  generalize hX : (x4.alloc (.cells #[Value.slice av4 sUp.length cv4] 28)) = w5 at hdx kn HBN D0 K0 D1 K1 D2 K2 D3 K3 ⊢
  generalize x4.heap.size = b4 at kn ⊢
  obtain ⟨v4, hv4⟩ : ∃ v, v = Value.slice av4 sUp.length cv4 := ⟨_, rfl⟩
  rw [← hv4] at hdx kn ⊢
  have K4 := kn
  have D4 := Lib.hid hdx
  have hz0 : w.heap.size ≤ w5.heap.size := HBN.out.size
  clear HB
  have HB := HBN
  clear HBN hX hdx kn hb hd hbx hbb C hv4
  go_upto_region 6 with fail
  have KA1 : (w5.alloc (.cells #[v0] 28)).cell? ⟨b1, 0, none⟩ = some v1 := box_keep K1 ((Below.refl _ _).alloc (Nat.le_refl _) _)
  have C := Lib.hid (makeBoth_calls w.heap.size [v0] [v1] [sZero] [sOne] 28 w5 hz0 rfl rfl (setF_one D0.out.nodesZ) (setF_one D1.out.nodesZ) (fit_one sZero_fit) (fit_one sOne_fit) (by simp) (by simp) (by have := sZero_le; have := sOne_le; simp only [totL, List.map_cons, List.map_nil, List.sum_cons, List.sum_nil]; omega))
  go_wp2_with fail
  refine C.out.mono ?_
  rintro e x5 ⟨v5, rfl, hd, hb⟩
  have hd : DrF w5.heap.size (fun _ => False) x5 v5 sHalf := hd
  have hbx : Below x5.heap.size x5 (x5.alloc (.cells #[v5] 28)) := (Below.refl _ _).alloc (Nat.le_refl _) _
  have hbb : Below w5.heap.size w5 (x5.alloc (.cells #[v5] 28)) := hb.trans (hbx.mono hb.size)
  have kn : (x5.alloc (.cells #[v5] 28)).cell? ⟨x5.heap.size, 0, none⟩ = some v5 := by go_simp
  have hdx := (hd.mono hz0).below hbx
  obtain ⟨av5, cv5, hsh5⟩ := hd.shape
  have HBN := Lib.hid (HB.out.trans (hbb.mono HB.out.size))
  have D0 := Lib.hid (D0.out.below hbb)
  have K0 := box_keep K0 hbb
  have D1 := Lib.hid (D1.out.below hbb)
  have K1 := box_keep K1 hbb
  have D2 := Lib.hid (D2.out.below hbb)
  have K2 := box_keep K2 hbb
  have D3 := Lib.hid (D3.out.below hbb)
  have K3 := box_keep K3 hbb
  have D4 := Lib.hid (D4.out.below hbb)
  have K4 := box_keep K4 hbb
  clear KA1
  subst hsh5
  go_upto_region 7 with fail
  generalize hX : (x5.alloc (.cells #[Value.slice av5 sHalf.length cv5] 28)) = w6 at hdx kn HBN D0 K0 D1 K1 D2 K2 D3 K3 D4 K4 ⊢
  generalize x5.heap.size = b5 at kn ⊢
  obtain ⟨v5, hv5⟩ : ∃ v, v = Value.slice av5 sHalf.length cv5 := ⟨_, rfl⟩
  rw [← hv5] at hdx kn ⊢
  have K5 := kn
  have D5 := Lib.hid hdx
  have hz0 : w.heap.size ≤ w6.heap.size := HBN.out.size
  clear HB
  have HB := HBN
  clear HBN hX hdx kn hb hd hbx hbb C hv5
  go_upto_region 7 with fail
  have KA2 : (w6.alloc (.cells #[v1] 28)).cell? ⟨b2, 0, none⟩ = some v2 := box_keep K2 ((Below.refl _ _).alloc (Nat.le_refl _) _)
  have C := Lib.hid (makeBoth_calls w.heap.size [v1] [v2] [sOne] [sLess] 28 w6 hz0 rfl rfl (setF_one D1.out.nodesZ) (setF_one D2.out.nodesZ) (fit_one sOne_fit) (fit_one sLess_fit) (by simp) (by simp) (by have := sOne_le; have := sLess_le; simp only [totL, List.map_cons, List.map_nil, List.sum_cons, List.sum_nil]; omega))
  go_wp2_with fail
  refine C.out.mono ?_
  rintro e x6 ⟨v6, rfl, hd, hb⟩
  have hd : DrF w6.heap.size (fun _ => False) x6 v6 sHot := hd
  have hbx : Below x6.heap.size x6 (x6.alloc (.cells #[v6] 28)) := (Below.refl _ _).alloc (Nat.le_refl _) _
  have hbb : Below w6.heap.size w6 (x6.alloc (.cells #[v6] 28)) := hb.trans (hbx.mono hb.size)
  have kn : (x6.alloc (.cells #[v6] 28)).cell? ⟨x6.heap.size, 0, none⟩ = some v6 := by go_simp
  have hdx := (hd.mono hz0).below hbx
  obtain ⟨av6, cv6, hsh6⟩ := hd.shape
  have HBN := Lib.hid (HB.out.trans (hbb.mono HB.out.size))
  have D0 := Lib.hid (D0.out.below hbb)
  have K0 := box_keep K0 hbb
  have D1 := Lib.hid (D1.out.below hbb)
  have K1 := box_keep K1 hbb
  have D2 := Lib.hid (D2.out.below hbb)
  have K2 := box_keep K2 hbb
  have D3 := Lib.hid (D3.out.below hbb)
  have K3 := box_keep K3 hbb
  have D4 := Lib.hid (D4.out.below hbb)
  have K4 := box_keep K4 hbb
  have D5 := Lib.hid (D5.out.below hbb)
  have K5 := box_keep K5 hbb
  clear KA2
  subst hsh6
  go_upto_region 8 with fail
  generalize hX : (x6.alloc (.cells #[Value.slice av6 sHot.length cv6] 28)) = w7 at hdx kn HBN D0 K0 D1 K1 D2 K2 D3 K3 D4 K4 D5 K5 ⊢
  generalize x6.heap.size = b6 at kn ⊢
  obtain ⟨v6, hv6⟩ : ∃ v, v = Value.slice av6 sHot.length cv6 := ⟨_, rfl⟩
  rw [← hv6] at hdx kn ⊢
  have K6 := kn
  have D6 := Lib.hid hdx
  have hz0 : w.heap.size ≤ w7.heap.size := HBN.out.size
  clear HB
  have HB := HBN
  clear HBN hX hdx kn hb hd hbx hbb C hv6
  go_upto_region 8 with fail
  have KA0 : (w7.alloc (.cells #[v0, v3] 28)).cell? ⟨b0, 0, none⟩ = some v0 := box_keep K0 ((Below.refl _ _).alloc (Nat.le_refl _) _)
  have KA3 : (w7.alloc (.cells #[v0, v3] 28)).cell? ⟨b3, 0, none⟩ = some v3 := box_keep K3 ((Below.refl _ _).alloc (Nat.le_refl _) _)
  have C := Lib.hid (makeBoth_calls w.heap.size [v0, v3] [v0, v3] [sZero, sStar] [sZero, sStar] 28 w7 hz0 rfl rfl (setF_two D0.out.nodesZ D3.out.nodesZ) (setF_two D0.out.nodesZ D3.out.nodesZ) (fit_two sZero_fit sStar_fit) (fit_two sZero_fit sStar_fit) (by simp) (by simp) (by have := sZero_le; have := sStar_le; simp only [totL, List.map_cons, List.map_nil, List.sum_cons, List.sum_nil]; omega))
  go_wp2_with fail
  refine C.out.mono ?_
  rintro e x7 ⟨v7, rfl, hd, hb⟩
  have hd : DrF w7.heap.size (fun _ => False) x7 v7 sTwo := hd
  have hbx : Below x7.heap.size x7 (x7.alloc (.cells #[v7] 28)) := (Below.refl _ _).alloc (Nat.le_refl _) _
  have hbb : Below w7.heap.size w7 (x7.alloc (.cells #[v7] 28)) := hb.trans (hbx.mono hb.size)
  have kn : (x7.alloc (.cells #[v7] 28)).cell? ⟨x7.heap.size, 0, none⟩ = some v7 := by go_simp
  have hdx := (hd.mono hz0).below hbx
  obtain ⟨av7, cv7, hsh7⟩ := hd.shape
  have HBN := Lib.hid (HB.out.trans (hbb.mono HB.out.size))
  have D0 := Lib.hid (D0.out.below hbb)
  have K0 := box_keep K0 hbb
  have D1 := Lib.hid (D1.out.below hbb)
  have K1 := box_keep K1 hbb
  have D2 := Lib.hid (D2.out.below hbb)
  have K2 := box_keep K2 hbb
  have D3 := Lib.hid (D3.out.below hbb)
  have K3 := box_keep K3 hbb
  have D4 := Lib.hid (D4.out.below hbb)
  have K4 := box_keep K4 hbb
  have D5 := Lib.hid (D5.out.below hbb)
  have K5 := box_keep K5 hbb
  have D6 := Lib.hid (D6.out.below hbb)
  have K6 := box_keep K6 hbb
  clear KA0 KA3
  subst hsh7
  go_upto_region 9 with fail
  generalize hX : (x7.alloc (.cells #[Value.slice av7 sTwo.length cv7] 28)) = w8 at hdx kn HBN D0 K0 D1 K1 D2 K2 D3 K3 D4 K4 D5 K5 D6 K6 ⊢
  generalize x7.heap.size = b7 at kn ⊢
  obtain ⟨v7, hv7⟩ : ∃ v, v = Value.slice av7 sTwo.length cv7 := ⟨_, rfl⟩
  rw [← hv7] at hdx kn ⊢
  have K7 := kn
  have D7 := Lib.hid hdx
  have hz0 : w.heap.size ≤ w8.heap.size := HBN.out.size
  clear HB
  have HB := HBN
  clear HBN hX hdx kn hb hd hbx hbb C hv7
  go_upto_region 9 with fail
  have KA0 : (w8.alloc (.cells #[v3] 28)).cell? ⟨b0, 0, none⟩ = some v0 := box_keep K0 ((Below.refl _ _).alloc (Nat.le_refl _) _)
  have C := Lib.hid (makeBoth_calls w.heap.size [v3] [v0] [sStar] [sZero] 28 w8 hz0 rfl rfl (setF_one D3.out.nodesZ) (setF_one D0.out.nodesZ) (fit_one sStar_fit) (fit_one sZero_fit) (by simp) (by simp) (by have := sZero_le; have := sStar_le; simp only [totL, List.map_cons, List.map_nil, List.sum_cons, List.sum_nil]; omega))
  go_wp2_with fail
  refine C.out.mono ?_
  rintro e x8 ⟨v8, rfl, hd, hb⟩
  have hd : DrF w8.heap.size (fun _ => False) x8 v8 sDown := hd
  have hbx : Below x8.heap.size x8 (x8.alloc (.cells #[v8] 28)) := (Below.refl _ _).alloc (Nat.le_refl _) _
  have hbb : Below w8.heap.size w8 (x8.alloc (.cells #[v8] 28)) := hb.trans (hbx.mono hb.size)
  have kn : (x8.alloc (.cells #[v8] 28)).cell? ⟨x8.heap.size, 0, none⟩ = some v8 := by go_simp
  have hdx := (hd.mono hz0).below hbx
  obtain ⟨av8, cv8, hsh8⟩ := hd.shape
  have HBN := Lib.hid (HB.out.trans (hbb.mono HB.out.size))
  have D0 := Lib.hid (D0.out.below hbb)
  have K0 := box_keep K0 hbb
  have D1 := Lib.hid (D1.out.below hbb)
  have K1 := box_keep K1 hbb
  have D2 := Lib.hid (D2.out.below hbb)
  have K2 := box_keep K2 hbb
  have D3 := Lib.hid (D3.out.below hbb)
  have K3 := box_keep K3 hbb
  have D4 := Lib.hid (D4.out.below hbb)
  have K4 := box_keep K4 hbb
  have D5 := Lib.hid (D5.out.below hbb)
  have K5 := box_keep K5 hbb
  have D6 := Lib.hid (D6.out.below hbb)
  have K6 := box_keep K6 hbb
  have D7 := Lib.hid (D7.out.below hbb)
  have K7 := box_keep K7 hbb
  clear KA0
  subst hsh8
  go_upto_region 10 with fail
  generalize hX : (x8.alloc (.cells #[Value.slice av8 sDown.length cv8] 28)) = w9 at hdx kn HBN D0 K0 D1 K1 D2 K2 D3 K3 D4 K4 D5 K5 D6 K6 D7 K7 ⊢
  generalize x8.heap.size = b8 at kn ⊢
  obtain ⟨v8, hv8⟩ : ∃ v, v = Value.slice av8 sDown.length cv8 := ⟨_, rfl⟩
  rw [← hv8] at hdx kn ⊢
  have K8 := kn
  have D8 := Lib.hid hdx
  have hz0 : w.heap.size ≤ w9.heap.size := HBN.out.size
  clear HB
  have HB := HBN
  clear HBN hX hdx kn hb hd hbx hbb C hv8
  have hbl : Below w9.heap.size w9 (w9.alloc (.cells #[v0, v1, v2, v3, v4, v5, v6, v7, v8] 28)) := (Below.refl _ _).alloc (Nat.le_refl _) _
  have HRow : Hid ((w9.alloc (.cells #[v0, v1, v2, v3, v4, v5, v6, v7, v8] 28)).ownsRow w.heap.size 28 1 (.slice (some ⟨w9.heap.size, 0, none⟩) 9 9) 9 [v0, v1, v2, v3, v4, v5, v6, v7, v8]) := Lib.hid (World.ownsRow_lit w9 #[v0, v1, v2, v3, v4, v5, v6, v7, v8] 9 hz0 (by unfold maxLen; omega) rfl)
  have HE : Hid (∀ (j : Nat) (u : Value) (f : List Nd), ([v0, v1, v2, v3, v4, v5, v6, v7, v8] : List Value)[j]? = some u → smallL[j]? = some f → DrF w.heap.size (fun b => b = w9.heap.size) (w9.alloc (.cells #[v0, v1, v2, v3, v4, v5, v6, v7, v8] 28)) u f) := Lib.hid fun j u f hu hf => by
    match j, hu, hf with
    | 0, hu, hf =>
      simp [smallL] at hu hf
      subst hu hf
      exact (D0.out.reX (fun b _ h e => by omega)).below hbl
    | 1, hu, hf =>
      simp [smallL] at hu hf
      subst hu hf
      exact (D1.out.reX (fun b _ h e => by omega)).below hbl
    | 2, hu, hf =>
      simp [smallL] at hu hf
      subst hu hf
      exact (D2.out.reX (fun b _ h e => by omega)).below hbl
    | 3, hu, hf =>
      simp [smallL] at hu hf
      subst hu hf
      exact (D3.out.reX (fun b _ h e => by omega)).below hbl
    | 4, hu, hf =>
      simp [smallL] at hu hf
      subst hu hf
      exact (D4.out.reX (fun b _ h e => by omega)).below hbl
    | 5, hu, hf =>
      simp [smallL] at hu hf
      subst hu hf
      exact (D5.out.reX (fun b _ h e => by omega)).below hbl
    | 6, hu, hf =>
      simp [smallL] at hu hf
      subst hu hf
      exact (D6.out.reX (fun b _ h e => by omega)).below hbl
    | 7, hu, hf =>
      simp [smallL] at hu hf
      subst hu hf
      exact (D7.out.reX (fun b _ h e => by omega)).below hbl
    | 8, hu, hf =>
      simp [smallL] at hu hf
      subst hu hf
      exact (D8.out.reX (fun b _ h e => by omega)).below hbl
    | n + 9, hu, hf => simp at hu
  have HBE := Lib.hid (HB.out.trans (hbl.mono hz0))
  clear D0 D1 D2 D3 D4 D5 D6 D7 D8 hbl HB
  go_wp2_with fail
  go_ret
  exact ⟨w9.heap.size, [v0, v1, v2, v3, v4, v5, v6, v7, v8], rfl, HRow.out, rfl, HE.out, HBE.out⟩
end

section
open Go.RowKit
set_option linter.unusedVariables false
set_option linter.unusedSimpArgs false
/-- the games that are there to choose from -/
structure DrL (base : Nat) (w : World) (g c : Nat) (us : List Value) (Fs : List (List Nd)) (d : Nat) : Prop where
  row : w.ownsRow base 28 1 (.slice (some ⟨g, 0, none⟩) Fs.length c) Fs.length us
  len : us.length = Fs.length
  each : ∀ (j : Nat) (u : Value) (f : List Nd), us[j]? = some u → Fs[j]? = some f → DrF base (fun b => b = g) w u f
  fit : ∀ f ∈ Fs, FitW f ∧ f.length ≤ d
theorem DrL.lt {base : Nat} {w : World} {g c : Nat} {us : List Value} {Fs : List (List Nd)} {d : Nat} (h : DrL base w g c us Fs d) : base ≤ g ∧ g < w.heap.size := World.ownsRow.lt h.row g rfl
theorem DrL.only {base : Nat} {w w' : World} {g c : Nat} {us : List Value} {Fs : List (List Nd)} {d : Nat} {G : Nat → Prop} (h : DrL base w g c us Fs d) (ho : Only w w' G) (hG : ∀ b, base ≤ b → b < w.heap.size → ¬ G b) : DrL base w' g c us Fs d :=
  ⟨own_only h.row ho (fun x hx => by have := World.ownsRow.lt h.row x hx; exact hG x this.1 this.2), h.len, fun j u f h1 h2 => (h.each j u f h1 h2).only ho (fun b b1 b2 b3 => ⟨hG b b1 b2, b3⟩), h.fit⟩
theorem DrL.formsZ {base : Nat} {w : World} {g c : Nat} {us : List Value} {Fs : List (List Nd)} {d : Nat} (h : DrL base w g c us Fs d) : FormsZ w base w.heap.size (.slice (some ⟨g, 0, none⟩) Fs.length c) (Fs.map (fun f => f.map upN)) :=
  formsZ_row h.row h.len (fun j u f h1 h2 => (h.each j u f h1 h2).nodesZ) (Nat.le_refl _) (Nat.le_refl _)
theorem DrL.push {base : Nat} {w4 w5 : World} {g c g' c' d d' : Nat} {us : List Value} {Fs : List (List Nd)} {u : Value} {f : List Nd} {T : TypeId} (h : DrL base w4 g c us Fs d) (hd : d ≤ d')
    (hu : DrF base (fun b => b = g) w4 u f) (hf : FitW f) (hfl : f.length ≤ d') (hown : w5.ownsRow base 28 1 (.slice (some ⟨g', 0, none⟩) (Fs.length + 1) c') (Fs.length + 1) (us ++ [u]))
    (hg : (w4.alloc (.cells #[u] T)).grownBy w5 (Value.slice (some ⟨g, 0, none⟩) Fs.length c).ownBlock) (hat : (Value.slice (some ⟨g', 0, none⟩) (Fs.length + 1) c').ownBlock = (Value.slice (some ⟨g, 0, none⟩) Fs.length c).ownBlock ∨ (Value.slice (some ⟨g', 0, none⟩) (Fs.length + 1) c').ownBlock = some (w4.alloc (.cells #[u] T)).heap.size) :
    DrL base w5 g' c' (us ++ [u]) (Fs ++ [f]) d' ∧ Only w4 w5 (fun b => b = g) := by
  have hal : Below w4.heap.size w4 (w4.alloc (.cells #[u] T)) := (Below.refl _ _).alloc (Nat.le_refl _) _
  have ho : Only w4 w5 (fun b => b = g) := (Only.of_below (F := fun b => b = g) hal).trans (Only.of_grown (F := fun b => b = g) hg (fun x e => by injection e with e; exact e.symm)) (fun _ _ h => h)
  have hz : (w4.alloc (.cells #[u] T)).heap.size = w4.heap.size + 1 := by simp
  have hgg : g' = g ∨ g' = w4.heap.size + 1 := by
    rcases hat with e | e
    · left; injection e
    · right; rw [hz] at e; injection e
  have hmove : ∀ (u : Value) (f : List Nd), DrF base (fun b => b = g) w4 u f → DrF base (fun b => b = g') w5 u f := fun u f h => h.only ho (fun b b1 b2 b3 => ⟨b3, fun e => by rcases hgg with e2 | e2 <;> omega⟩)
  refine ⟨⟨by rw [List.length_append]; exact hown, by simp [h.len], fun j u' f' h1 h2 => ?_, fun x hx => ?_⟩, ho⟩
  · rcases Nat.lt_or_ge j us.length with hlt | hge
    · rw [List.getElem?_append_left hlt] at h1
      rw [List.getElem?_append_left (by rw [← h.len]; exact hlt)] at h2
      exact hmove _ _ (h.each j u' f' h1 h2)
    · have hj := get_lt h1
      simp at hj
      have : j = us.length := by omega
      subst this
      rw [List.getElem?_append_right (Nat.le_refl _)] at h1
      rw [h.len, List.getElem?_append_right (Nat.le_refl _)] at h2
      simp at h1 h2
      subst h1 h2
      exact hmove _ _ hu
  · rcases List.mem_append.1 hx with h1 | h1
    · have := h.fit x h1
      exact ⟨this.1, by omega⟩
    · rw [List.mem_singleton] at h1
      subst h1
      exact ⟨hf, hfl⟩
theorem DrL.at_ {base : Nat} {w : World} {g c : Nat} {us : List Value} {Fs : List (List Nd)} {d : Nat} (h : DrL base w g c us Fs d) {j : Nat} (hj : j < Fs.length) : ∃ a k f, w.cell? ⟨g, j, none⟩ = some (.slice a f.length k) ∧ DrF base (fun b => b = g) w (.slice a f.length k) f ∧ FitW f ∧ f.length ≤ d := by
  obtain ⟨f, hf⟩ := lt_get hj
  obtain ⟨u, hu⟩ := lt_get (l := us) (i := j) (by rw [h.len]; exact hj)
  have h1 := h.each j u f hu hf
  obtain ⟨a, k, rfl⟩ := h1.shape
  have h2 := h.fit f (List.mem_of_getElem? hf)
  exact ⟨a, k, f, by rw [World.ownsRow.cellAt h.row j (by omega), hu], h1, h2.1, h2.2⟩
set_option maxRecDepth 100000 in
set_option maxHeartbeats 8000000 in
theorem form_draw (W0 w : World) (q n N : Nat) (v : Value) (hc : CodeIn W0 v n) (hn : n ≤ 1000000) (h : Cur W0 w q v N) (k : Nat) (hk : k ≤ 6) (hN : N + 12 * k + 20 ≤ 80000) :
    Calls Try.prog 28 #[.pointer (some ⟨q, 0, none⟩), .int .i64 k] w fun e w' => ∃ (u : Value) (f : List Nd), e = .returned (.agg #[u]) ∧ DrF w.heap.size (fun _ => False) w' u f ∧ FitW f ∧ f.length ≤ deepN k ∧ Cur W0 w' q v (N + 12 * k + 4) ∧ Only w w' (fun b => b = q) := by
  obtain ⟨i0, hi0, hz0, hz1, hz2⟩ := info_parts infoFormA
  have hW0 : W0.heap.size ≤ w.heap.size := h.2.1.size
  have hq0 := h.1
  have hql := h.lt
  have HPK := Lib.hid fun (W : World) (M m : Nat) (hM : M ≤ 90000) (h1 : 1 ≤ m) (h2 : m ≤ 100000) (hW : Cur W0 W q v M) => pick_calls W0 W q n M m v hc hn hW hM h1 h2
  have HON := Lib.hid fun (W : World) (M m : Nat) (hM : M ≤ 90000) (h1 : 1 ≤ m) (h2 : m ≤ 100000) (hW : Cur W0 W q v M) => one_calls W0 W q n M m v hc hn hW hM h1 h2
  have HSO := Lib.hid fun (W : World) (M : Nat) (g c : Nat) (us : List Value) (Fs : List (List Nd)) (d : Nat) (hM : M + 8 ≤ 80000) (hW : Cur W0 W q v M) (hl : DrL (w.heap.size + 1) W g c us Fs d) (h0 : 0 < Fs.length) (h1 : Fs.length ≤ 1000) =>
    some_calls W0 W q n M v hc hn hW (.slice (some ⟨g, 0, none⟩) Fs.length c) Fs (w.heap.size + 1) 2 (by omega) (by have := hl.lt; omega) (by omega) hl.formsZ h0 h1 (by omega)
  have hal : Below w.heap.size w (w.alloc (.cells #[.slice none 0 0] 28)) := (Below.refl _ _).alloc (Nat.le_refl _) _
  have hzA : (w.alloc (.cells #[.slice none 0 0] 28)).heap.size = w.heap.size + 1 := by simp
  have hx0 : BoxAt (w.alloc (.cells #[.slice none 0 0] 28)) w.heap.size (.slice none 0 0) := ⟨by go_simp, by go_simp⟩
  have HX0 := Lib.hid hx0
  have HC0 := Lib.hid (h.below hal)
  have HAL := Lib.hid hal
  have C0 := Lib.hid (small_calls (w.alloc (.cells #[.slice none 0 0] 28)))
  rw [hzA] at C0
  clear h hc hn hal hx0
  go_enter Try.func28, Try.ntmps28
  go_wp2_with fail
  refine C0.out.mono ?_
  rintro e w1 ⟨g, us, rfl, hrow, hul, hea, hb⟩
  have hb' : Below (w.alloc (.cells #[.slice none 0 0] 28)).heap.size (w.alloc (.cells #[.slice none 0 0] 28)) w1 := by rw [hzA]; exact hb
  have HD1 : Hid (DrL (w.heap.size + 1) w1 g 9 us smallL (deepN 0)) := Lib.hid ⟨hrow, hul, hea, small_fit⟩
  have HX1 := Lib.hid (HX0.out.below hb')
  have HC1 := Lib.hid (HC0.out.below hb')
  have HO1 : Hid (Only w w1 (fun b => b = q)) := Lib.hid ((Only.of_below (F := fun b => b = q) HAL.out).trans (Only.of_below (F := fun b => b = q) hb') (fun _ _ h => h))
  have hs9 : smallL.length = 9 := rfl
  clear hrow hul hea hb hb' C0 HX0 HC0 HAL
  go_wp2
  go_loopw [5, 6] (fun l i wr => ∃ (j g c : Nat) (us : List Value) (Fs : List (List Nd)), j ≤ k ∧ i = .int .i64 j ∧ l = .slice (some ⟨g, 0, none⟩) (9 + j) c ∧ Fs.length = 9 + j ∧ Hid (DrL (w.heap.size + 1) wr g c us Fs (deepN j)) ∧ Hid (BoxAt wr w.heap.size (.slice none 0 0)) ∧ Hid (Cur W0 wr q v (N + 12 * j)) ∧ Hid (Only w wr (fun b => b = q))) (fun _ i _ => k - (intOf i).toNat)
  case atStart => exact ⟨0, g, 9, us, smallL, Nat.zero_le _, rfl, rfl, rfl, HD1, HX1, HC1, HO1⟩
  case round =>
    obtain ⟨j, g, c, us, Fs, hj, rfl, rfl, hF, hD, hX, hC, hO⟩ := hrel
    clear HD1 HX1 HC1 HO1
    have hsz := hO.out.size
    have hgl := hD.out.lt
    by_cases hlt : j < k
    · have b0 : (0 : Int) ≤ j := by omega
      have b1 : (j : Int) < k := by omega
      have C1 := Lib.hid (HSO.out wr (N + 12 * j) g c us Fs (deepN j) (by omega) hC.out hD.out (by omega) (by omega))
      rw [hF] at C1
      go_wp2_with fail
      refine C1.out.mono ?_
      rintro e w2 ⟨a2, c2, Ls, rfl, hL2, hLs, hZ2, hC2, hO2⟩
      have HD2 := Lib.hid (hD.out.only hO2 (fun b b1 b2 e => by omega))
      have HLS := Lib.hid hLs
      have HZ2 := Lib.hid hZ2
      have HC2 := Lib.hid hC2
      have HO2 := Lib.hid hO2
      have C2 := Lib.hid (HSO.out w2 _ g c us Fs (deepN j) (by omega) hC2 HD2.out (by omega) (by omega))
      rw [hF] at C2
      have hs2 := hO2.size
      clear hLs hZ2 hC2 hO2 C1
      go_wp2_with fail
      refine C2.out.mono ?_
      rintro e w3 ⟨a3, c3, Rs, rfl, hL3, hRs, hZ3, hC3, hO3⟩
      have HD3 := Lib.hid (HD2.out.only hO3 (fun b b1 b2 e => by omega))
      have HZ2' := Lib.hid (HZ2.out.only (Nat.le_refl _) hO3 (fun b h1 h2 e => by omega))
      have hs3 := hO3.size
      have fitL : ∀ f ∈ Ls, FitW f := fun f hf => (hD.out.fit f (HLS.out f hf)).1
      have fitR : ∀ f ∈ Rs, FitW f := fun f hf => (hD.out.fit f (hRs f hf)).1
      have hdl : deepN j ≤ 4437 := by rw [← deepN_five]; exact deepN_mono j 5 (by omega)
      have tL := totL_le Ls (deepN j) (fun f hf => (hD.out.fit f (HLS.out f hf)).2)
      have tR := totL_le Rs (deepN j) (fun f hf => (hD.out.fit f (hRs f hf)).2)
      have tL2 : totL Ls ≤ deepN j * 2 := Nat.le_trans tL (Nat.mul_le_mul_left _ hL2)
      have tR2 : totL Rs ≤ deepN j * 2 := Nat.le_trans tR (Nat.mul_le_mul_left _ hL3)
      have hfit := made_fit fitL fitR (by omega) (by omega)
      have HFT : Hid (FitW (formM (mkD Ls Rs)) ∧ (formM (mkD Ls Rs)).length ≤ deepN (j + 1)) := Lib.hid ⟨hfit.1, by have := hfit.2; simp only [deepN]; omega⟩
      have CM := Lib.hid (l3MakeL_calls _ _ Ls Rs w3 (w.heap.size + 1) w2.heap.size (w.heap.size + 1) w3.heap.size hs3 (Nat.le_refl _) HZ2'.out hZ3 fitL fitR (by omega) (by omega) (by omega))
      have HC3 := Lib.hid hC3
      have HO3 : Hid (Only wr w3 (fun b => b = q)) := Lib.hid (HO2.out.trans hO3 (fun _ _ h => h))
      obtain ⟨M, hM⟩ : ∃ M, formM (mkD Ls Rs) = M := ⟨_, rfl⟩
      rw [hM] at CM HFT
      clear hRs hZ3 hC3 hO3 C2 fitL fitR tL tR tL2 tR2 hfit hM HZ2 HZ2' HLS HC2 HO2 HD2 hdl
      go_wp2_with fail
      refine CM.out.mono ?_
      rintro e w4 ⟨u, rfl, hu, hb4⟩
      have hs4 := hb4.size
      have hu4 : DrF (w.heap.size + 1) (fun b => b = g) w4 u M := (DrF.new hu (fun b => b = g) (fun b e => by have := HD3.out.lt; omega)).mono (by omega)
      obtain ⟨au, cu, hsh⟩ := hu4.shape
      subst hsh
      have HU4 := Lib.hid hu4
      have HD4 := Lib.hid (HD3.out.only (Only.of_below (F := fun _ => False) hb4) (fun _ _ _ => id))
      have HC4 := Lib.hid (HC3.out.below hb4)
      have HO4 : Hid (Only wr w4 (fun b => b = q)) := Lib.hid (HO3.out.trans (Only.of_below hb4) (fun _ _ h => h))
      have HR4 := Lib.hid (World.ownsRow.alloc HD4.out.row (.cells #[.slice au M.length cu] 28))
      rw [hF] at HR4
      have hbase : w.heap.size + 1 ≤ w4.heap.size := by omega
      clear hu hb4 hu4 CM HC3 HO3 HD3
      go_wp2_with (at_builtin; refine wpList_append_own_at _ rfl _ _ 24 rfl (w.heap.size + 1) 28 i0 (.agg #[.slice none 0 0]) 1 24 Try.underlying24 hi0 hz0 hz1 hz2 rfl (by decide) _ _ _ rfl HR4.out ⟨w4.heap.size, 0, none⟩ 1 1 [.slice au M.length cu] rfl rfl (cell_one_new _ _ _) (by simp [Value.oneCell']) (by unfold maxLen; omega) (by omega) (by simp; omega) ?_; intro v7 w7 hown7 hgrow7 hnil7 hat7)
      obtain ⟨g7, c7, rfl, _, _⟩ := hown7.form (by omega)
      rw [← hF] at hown7 hgrow7 hat7
      obtain ⟨p1, p2⟩ := HD4.out.push (d' := deepN (j + 1)) (deepN_mono _ _ (by omega)) HU4.out HFT.out.1 HFT.out.2 hown7 hgrow7 hat7
      have HD7 := Lib.hid p1
      have HX7 := Lib.hid ((hX.out.only HO4.out (by omega)).only p2 (by omega))
      have HC7 := Lib.hid ((HC4.out.only p2 (fun x e => by omega) (by omega)).mono (show _ ≤ N + 12 * (j + 1) by omega))
      have HO7 : Hid (Only w w7 (fun b => b = q)) := Lib.hid ((hO.out.trans HO4.out (fun _ _ h => h)).trans p2 (fun i hi e => by omega))
      clear hown7 hgrow7 hnil7 hat7 p1 p2 HD4 HU4 HC4 HO4 HR4 HFT hD hX hC hO
      go_wp2
      go_roundw
      case rel => exact ⟨j + 1, g7, c7, us ++ [.slice au M.length cu], Fs ++ [M], by omega, by go_num, rfl, by simp; omega, HD7, HX7, HC7, HO7⟩
      case measure => simp [intOf]; omega
    · obtain rfl : j = k := by omega
      have CE := Lib.hid fun (W : World) (hW : Only wr W (fun b => b = q)) (r : Nat) (hr : r < 9 + j) => show ∃ a c' f, W.cell? ⟨g, r, none⟩ = some (.slice a f.length c') ∧ (∀ W', Only W W' (fun _ => False) → DrF w.heap.size (fun _ => False) (W'.setCell ⟨w.heap.size, 0, none⟩ (.slice a f.length c')) (.slice a f.length c') f) ∧ FitW f ∧ f.length ≤ deepN j from by
        have hDW := hD.out.only hW (fun b b1 b2 e => by omega)
        obtain ⟨a, c', f, e1, e2, e3, e4⟩ := hDW.at_ (j := r) (by omega)
        refine ⟨a, c', f, e1, fun W' hW' => ?_, e3, e4⟩
        have h1 := e2.only (Y := fun _ => False) hW' (fun b _ _ _ => ⟨id, id⟩)
        exact (h1.only (Y := fun _ => False) (Only.of_set (F := fun b => b = w.heap.size) _ rfl) (fun b b1 _ _ => ⟨by omega, id⟩)).mono (by omega)
      have hXl := block_of_cell hX.out.1
      have q0 : (0 : Int) ≤ j := by omega
      have CN := Lib.hid (HON.out wr (N + 12 * j) 3 (by omega) (by omega) (by omega) hC.out)
      go_wp2_with fail
      refine CN.out.mono ?_
      rintro e w2 ⟨⟨yes, rfl⟩, hC2, hg2⟩
      have HC2 := Lib.hid hC2
      have HO2 := Lib.hid (only_cur hg2)
      have HX2 := Lib.hid (hX.out.only (only_cur hg2) (by omega))
      clear hC2 hg2 CN
      cases yes with
      | true =>
        have CP := Lib.hid (HPK.out w2 (N + 12 * j + 2) (9 + j) (by omega) (by omega) (by omega) HC2.out)
        go_wp2_with fail
        first | (rw [show ((9 + j : Nat) : Int) = 9 + (j : Int) by omega] at CP) | skip
        refine CP.out.mono ?_
        rintro e w3 ⟨⟨r, hr, rfl⟩, hC3, hg3⟩
        have HO3 : Hid (Only wr w3 (fun b => b = q)) := Lib.hid (HO2.out.trans (only_cur hg3) (fun _ _ h => h))
        obtain ⟨a, c', f, e1, e2, e3, e4⟩ := CE.out w3 HO3.out r hr
        have HX3 := HX2.out.only (only_cur hg3) (by omega)
        obtain ⟨d1, d2⟩ := HX3
        have HDF := Lib.hid (e2 w3 (Only.refl _ _))
        have HFT := Lib.hid (And.intro e3 e4)
        have HCE : Hid (Cur W0 (w3.setCell ⟨w.heap.size, 0, none⟩ (.slice a f.length c')) q v (N + 12 * j + 4)) := Lib.hid (hC3.only (Only.of_set (F := fun b => b = w.heap.size) (.slice a f.length c') rfl) (fun x e => by omega) (by omega))
        have HOE : Hid (Only w (w3.setCell ⟨w.heap.size, 0, none⟩ (.slice a f.length c')) (fun b => b = q)) := Lib.hid ((hO.out.trans HO3.out (fun _ _ h => h)).trans (Only.of_set (F := fun b => b = w.heap.size) (.slice a f.length c') rfl) (fun i hi e => by omega))
        have hcr := World.cell?_setCell_same w3 ⟨w.heap.size, 0, none⟩ (.slice a f.length c') d1
        have c0 : (0 : Int) ≤ r := by omega
        have c1 : (r : Int) < 9 + (j : Int) := by omega
        clear hC3 hg3 e2 e3 e4 CP HC2 HO2 HX2 hD hX hC hO CE HO3
        go_wp2_with fail
        refine bodyPost_ret (v := .agg #[.slice a f.length c']) (by simp [results, Try.results28, go_sem, hcr]) rfl ⟨_, f, rfl, HDF.out, HFT.out.1, HFT.out.2, HCE.out, HOE.out⟩
      | false =>
        have HO3 : Hid (Only wr w2 (fun b => b = q)) := HO2
        obtain ⟨a, c', f, e1, e2, e3, e4⟩ := CE.out w2 HO3.out (9 + j - 1) (by omega)
        obtain ⟨d1, d2⟩ := HX2.out
        have HDF := Lib.hid (e2 w2 (Only.refl _ _))
        have HFT := Lib.hid (And.intro e3 e4)
        have HCE : Hid (Cur W0 (w2.setCell ⟨w.heap.size, 0, none⟩ (.slice a f.length c')) q v (N + 12 * j + 4)) := Lib.hid ((HC2.out.only (Only.of_set (F := fun b => b = w.heap.size) (.slice a f.length c') rfl) (fun x e => by omega) (by omega)).mono (show _ ≤ N + 12 * j + 4 by omega))
        have HOE : Hid (Only w (w2.setCell ⟨w.heap.size, 0, none⟩ (.slice a f.length c')) (fun b => b = q)) := Lib.hid ((hO.out.trans HO3.out (fun _ _ h => h)).trans (Only.of_set (F := fun b => b = w.heap.size) (.slice a f.length c') rfl) (fun i hi e => by omega))
        have hcr := World.cell?_setCell_same w2 ⟨w.heap.size, 0, none⟩ (.slice a f.length c') d1
        have e9 : 9 + j - 1 = 8 + j := by omega
        rw [e9] at e1
        have w9 : IntKind.i64.wrap (9 + (j : Int) - 1) = ((8 + j : Nat) : Int) := by rw [IntWalk.i64_in _ (by omega)]; omega
        have c0 : (0 : Int) ≤ ((8 + j : Nat) : Int) := by omega
        have c1 : ((8 + j : Nat) : Int) < 9 + (j : Int) := by omega
        clear e2 e3 e4 HC2 HO2 HX2 hD hX hC hO CE HO3
        go_wp2_with fail
        refine bodyPost_ret (v := .agg #[.slice a f.length c']) (by simp [results, Try.results28, go_sem, hcr]) rfl ⟨_, f, rfl, HDF.out, HFT.out.1, HFT.out.2, HCE.out, HOE.out⟩
end

section
open Go.RowKit
set_option linter.unusedVariables false
set_option linter.unusedSimpArgs false
set_option maxHeartbeats 1000000 in
theorem l1OwnZ_calls (v : Value) (l : List Int) (w : World) (lo hi : Nat) (hl : l.length ≤ 1000) (hv : IntsZ w lo hi v l) (hh : hi ≤ w.heap.size) :
    Calls Try.prog 63 #[v] w fun e w' => ∃ a c, e = .returned (.slice a l.length c) ∧ OwnI w' w.heap.size (.slice a l.length c) l ∧ Below w.heap.size w w' := by
  have hal : Below w.heap.size w (w.alloc (.cells #[] 3)) := (Below.refl _ _).alloc (Nat.le_refl _) _
  have HO : Hid ((w.alloc (.cells #[] 3)).ownsRow w.heap.size 3 1 (.slice (some ⟨w.heap.size, 0, none⟩) 0 0) 0 []) := Lib.hid (World.ownsRow_lit (base := w.heap.size) (e := 3) (size := 1) w #[] 0 (Nat.le_refl _) (by unfold maxLen; omega) rfl)
  have HV := Lib.hid (hv.below hal hh)
  have HB := Lib.hid hal
  obtain ⟨ao, c, rfl⟩ : ∃ a c, v = .slice a l.length c := by obtain ⟨a, c, e, _⟩ := hv; exact ⟨a, c, e⟩
  clear hv hal
  go_enter Try.func63, Try.ntmps63
  go_wp2_with (at_builtin; refine wpList_append_ints rfl _ _ rfl rfl HO.out rfl HV.out (by omega) (by simp) ?_; intro v7 w7 hown7 hgrow7 hat7)
  have HB7 := Lib.hid (HB.out.grown hgrow7 HB.out.size (fun q hq => by have := own_eqp hq; omega))
  rw [Nat.zero_add, List.nil_append] at hown7
  obtain ⟨a7, c7, rfl⟩ := own_form' hown7
  have HO7 : Hid (OwnI w7 w.heap.size (.slice a7 l.length c7) l) := Lib.hid hown7
  clear hown7 hgrow7 hat7
  go_wp2_with fail
  go_ret
  exact ⟨a7, c7, rfl, HO7.out, HB7.out⟩
end

section
open Go.RowKit
set_option linter.unusedVariables false
set_option linter.unusedSimpArgs false
/-- nothing from s on is written, but X -/
def Far (s : Nat) (X : Nat → Prop) (w w' : World) : Prop := w.heap.size ≤ w'.heap.size ∧ ∀ b, s ≤ b → b < w.heap.size → ¬ X b → w'.heap[b]? = w.heap[b]?
theorem Far.refl (s : Nat) (X : Nat → Prop) (w : World) : Far s X w w := ⟨Nat.le_refl _, fun _ _ _ _ => rfl⟩
theorem Far.trans {s : Nat} {X : Nat → Prop} {a b c : World} (h : Far s X a b) (k : Far s X b c) : Far s X a c := ⟨Nat.le_trans h.1 k.1, fun x h1 h2 h3 => (k.2 x h1 (Nat.lt_of_lt_of_le h2 h.1) h3).trans (h.2 x h1 h2 h3)⟩
theorem Only.far {s : Nat} {X : Nat → Prop} {w w' : World} {F : Nat → Prop} (h : Only w w' F) (hF : ∀ b, F b → b < s ∨ X b) : Far s X w w' := ⟨h.size, fun b h1 h2 h3 => h.block b h2 (fun e => (hF b e).elim (fun e => by omega) h3)⟩
/-- a list that is read, apart from X -/
def IntsA (s : Nat) (X : Nat → Prop) (w : World) (v : Value) (l : List Int) : Prop := ∀ w', Far s X w w' → IntsZ w' s w'.heap.size v l
theorem IntsA.far {s : Nat} {X : Nat → Prop} {w w' : World} {v : Value} {l : List Int} (h : IntsA s X w v l) (hf : Far s X w w') : IntsA s X w' v l := fun w2 h2 => h w2 (hf.trans h2)
theorem IntsA.shape {s : Nat} {X : Nat → Prop} {w : World} {v : Value} {l : List Int} (h : IntsA s X w v l) : ∃ a c, v = .slice a l.length c := by
  obtain ⟨a, c, e, _⟩ := h w (Far.refl _ _ _)
  exact ⟨a, c, e⟩
theorem IntsA.nil (s : Nat) (X : Nat → Prop) (w : World) : IntsA s X w (.slice none 0 0) [] := fun w' _ => ⟨none, 0, rfl, by simp, fun j x hx => by simp at hx⟩
theorem IntsA.of {s b : Nat} {X : Nat → Prop} {w : World} {v : Value} {l : List Int} (h : IntsZ w b (b + 1) v l) (h1 : s ≤ b) (h2 : b < w.heap.size) (h3 : ¬ X b) : IntsA s X w v l := fun w' hf =>
  (h.keep (fun x o g1 g2 => by
    have : x = b := by omega
    subst this
    exact World.cell?_of_block (a := ⟨x, o, none⟩) (hf.2 x h1 h2 h3))).wide h1 (Nat.lt_of_lt_of_le h2 hf.1)
theorem IntsA.own {s base : Nat} {X : Nat → Prop} {w : World} {v : Value} {l : List Int} (h : OwnI w base v l) (h1 : s ≤ base) (h3 : ∀ b, v.ownBlock = some b → ¬ X b) : IntsA s X w v l := by
  rcases h.2 with ⟨e1, e2⟩ | ⟨b, c, cs, e1, _⟩
  · have : l = [] := List.length_eq_zero_iff.1 e2
    subst this
    rw [e1]
    exact IntsA.nil s X w
  · subst e1
    have hlt := World.ownsRow.lt h b rfl
    refine IntsA.of (b := b) ⟨_, c, rfl, World.ownsRow.caps h, fun j x hx => ⟨b, 0, rfl, Nat.le_refl _, Nat.lt_succ_self _, ?_⟩⟩ (by omega) hlt.2 (h3 b rfl)
    rw [Nat.zero_add, World.ownsRow.cellAt h j (by have := get_lt hx; omega), List.getElem?_map, hx]
    rfl
structure AnyN (s : Nat) (X : Nat → Prop) (w : World) (g c : Nat) (vs : List (Value × Value)) (f : List Nz) : Prop where
  nodes : w.ownsRow s 57 2 (.slice (some ⟨g, 0, none⟩) f.length c) f.length (rowN2 vs)
  len : vs.length = f.length
  list : ∀ (j : Nat) (nd : Nz) (p : Value × Value), f[j]? = some nd → vs[j]? = some p → IntsA s X w p.1 nd.1 ∧ IntsA s X w p.2 nd.2
  xg : X g
theorem AnyN.only {s g c : Nat} {X : Nat → Prop} {w w' : World} {vs : List (Value × Value)} {f : List Nz} {F : Nat → Prop} (h : AnyN s X w g c vs f) (ho : Only w w' F) (hF : ∀ b, F b → b < s ∨ (X b ∧ b ≠ g)) : AnyN s X w' g c vs f := by
  have hg := World.ownsRow.lt h.nodes g rfl
  have hf : Far s X w w' := ho.far (fun b e => (hF b e).imp id (fun e => e.1))
  exact ⟨own_only h.nodes ho (fun x hx e => by have := (World.ownsRow.lt h.nodes x hx).1; have e2 : g = x := (by injection hx); rcases hF x e with e3 | e3 <;> omega), h.len, fun j nd p h1 h2 => ⟨(h.list j nd p h1 h2).1.far hf, (h.list j nd p h1 h2).2.far hf⟩, h.xg⟩
theorem AnyN.below {s g c : Nat} {X : Nat → Prop} {w w' : World} {vs : List (Value × Value)} {f : List Nz} (h : AnyN s X w g c vs f) (hb : Below w.heap.size w w') : AnyN s X w' g c vs f := h.only (Only.of_below (F := fun _ => False) hb) (fun _ h => h.elim)
theorem AnyN.of {s : Nat} {X : Nat → Prop} {w : World} {v : Value} {f : List Nd} (h : DrF s X w v f) (h0 : 0 < f.length) (B : Nat) (hB : w.heap.size ≤ B) : ∃ g c vs, v = .slice (some ⟨g, 0, none⟩) f.length c ∧ AnyN s (fun b => b = g ∨ b = B) w g c vs (f.map upN) := by
  obtain ⟨⟨vs, h⟩, _⟩ := h
  obtain ⟨g, c, rfl, _, _⟩ := h.nodes.form h0
  refine ⟨g, c, vs, rfl, by rw [List.length_map]; exact h.nodes, by rw [List.length_map]; exact h.len, fun j nd p h1 h2 => ?_, Or.inl rfl⟩
  rw [List.getElem?_map] at h1
  cases hx : f[j]? with
  | none => rw [hx] at h1; cases h1
  | some x =>
    rw [hx] at h1
    simp only [Option.map_some, Option.some.injEq] at h1
    subst h1
    have hi := h.inner j x p hx h2
    have key : ∀ v l, InL s (fun b => (Value.slice (some ⟨g, 0, none⟩) f.length c).ownBlock = some b ∨ X b) w v l → IntsA s (fun b => b = g ∨ b = B) w v (upL l) := fun v l hl => by
      obtain ⟨b, o, c', rfl, h1, h2, h3, h4⟩ := hl
      exact IntsA.of h4 h1 h2 (fun e => e.elim (fun e => h3 (Or.inl (by rw [e]; rfl))) (fun e => by omega))
    exact ⟨key _ _ hi.1, key _ _ hi.2⟩
theorem AnyN.nodesZ {s g c : Nat} {X : Nat → Prop} {w : World} {vs : List (Value × Value)} {f : List Nz} (h : AnyN s X w g c vs f) : NodesZ w s w.heap.size (.slice (some ⟨g, 0, none⟩) f.length c) f := by
  have hn := h.nodes
  have hlt := World.ownsRow.lt hn _ rfl
  refine ⟨_, c, rfl, World.ownsRow.caps hn, fun j nd hj => ?_⟩
  have hjl := get_lt hj
  obtain ⟨p, hp⟩ := lt_get (l := vs) (i := j) (by rw [h.len]; exact hjl)
  have hr := rowN2_at vs j p hp
  obtain ⟨i1, i2⟩ := h.list j nd p hj hp
  refine ⟨g, 0, p.1, p.2, rfl, hlt.1, hlt.2, ?_, ?_, i1 w (Far.refl _ _ _), i2 w (Far.refl _ _ _)⟩
  · rw [Nat.zero_add, World.ownsRow.cellAt hn (j * 2) (by omega)]; exact hr.1
  · rw [Nat.zero_add, World.ownsRow.cellAt hn (j * 2 + 1) (by omega)]; exact hr.2
theorem AnyN.at_ {s g c : Nat} {X : Nat → Prop} {w : World} {vs : List (Value × Value)} {f : List Nz} (h : AnyN s X w g c vs f) {j : Nat} (hj : j < f.length) : ∃ p nd, vs[j]? = some p ∧ f[j]? = some nd ∧ w.cell? ⟨g, j * 2, none⟩ = some p.1 ∧ w.cell? ⟨g, j * 2 + 1, none⟩ = some p.2 ∧ w.frozen? ⟨g, j * 2, none⟩ = false ∧ w.frozen? ⟨g, j * 2 + 1, none⟩ = false := by
  obtain ⟨p, hp⟩ := lt_get (l := vs) (i := j) (by rw [h.len]; exact hj)
  obtain ⟨nd, hnd⟩ := lt_get hj
  have hr := rowN2_at vs j p hp
  exact ⟨p, nd, hp, hnd, by rw [World.ownsRow.cellAt h.nodes (j * 2) (by omega)]; exact hr.1, by rw [World.ownsRow.cellAt h.nodes (j * 2 + 1) (by omega)]; exact hr.2, World.ownsRow.frozenAt h.nodes _, World.ownsRow.frozenAt h.nodes _⟩
theorem AnyN.cells {s g c : Nat} {X : Nat → Prop} {w : World} {vs : List (Value × Value)} {f : List Nz} (h : AnyN s X w g c vs f) {j : Nat} {p : Value × Value} (hp : vs[j]? = some p) : w.cell? ⟨g, j * 2, none⟩ = some p.1 ∧ w.cell? ⟨g, j * 2 + 1, none⟩ = some p.2 ∧ w.frozen? ⟨g, j * 2, none⟩ = false ∧ w.frozen? ⟨g, j * 2 + 1, none⟩ = false := by
  have hj : j < f.length := by rw [← h.len]; exact get_lt hp
  have hr := rowN2_at vs j p hp
  exact ⟨by rw [World.ownsRow.cellAt h.nodes (j * 2) (by omega)]; exact hr.1, by rw [World.ownsRow.cellAt h.nodes (j * 2 + 1) (by omega)]; exact hr.2, World.ownsRow.frozenAt h.nodes _, World.ownsRow.frozenAt h.nodes _⟩
/-- a node is written -/
theorem AnyN.set {s g c j : Nat} {X : Nat → Prop} {w : World} {vs : List (Value × Value)} {f : List Nz} (h : AnyN s X w g c vs f) (p : Value × Value) (nd : Nz) (hp : IntsA s X w p.1 nd.1 ∧ IntsA s X w p.2 nd.2) :
    AnyN s X ((w.setCell ⟨g, j * 2, none⟩ p.1).setCell ⟨g, j * 2 + 1, none⟩ p.2) g c (vs.set j p) (f.set j nd) ∧ Only w ((w.setCell ⟨g, j * 2, none⟩ p.1).setCell ⟨g, j * 2 + 1, none⟩ p.2) (fun b => b = g) := by
  have s1 := (World.ownsRow.stored h.nodes (j * 2) p.1).1
  have s2 := (World.ownsRow.stored s1 (j * 2 + 1) p.2).1
  rw [rowN2_set] at s2
  have ho : Only w ((w.setCell ⟨g, j * 2, none⟩ p.1).setCell ⟨g, j * 2 + 1, none⟩ p.2) (fun b => b = g) := (Only.of_set (F := fun b => b = g) p.1 rfl).trans (Only.of_set (F := fun b => b = g) p.2 rfl) (fun _ _ h => h)
  have hf : Far s X w ((w.setCell ⟨g, j * 2, none⟩ p.1).setCell ⟨g, j * 2 + 1, none⟩ p.2) := ho.far (fun b e => Or.inr (e ▸ h.xg))
  refine ⟨⟨by rw [List.length_set]; exact s2, by rw [List.length_set, List.length_set]; exact h.len, fun i n0 q hi hq => ?_, h.xg⟩, ho⟩
  rcases set_get hi with ⟨e1, e2⟩ | ⟨h3, hi2⟩
  · subst e1 e2
    rcases set_get hq with ⟨_, e4⟩ | ⟨h4, _⟩
    · subst e4
      exact ⟨hp.1.far hf, hp.2.far hf⟩
    · exact absurd rfl h4
  · rcases set_get hq with ⟨e3, _⟩ | ⟨_, hq2⟩
    · exact absurd e3 h3
    · have := h.list i n0 q hi2 hq2
      exact ⟨this.1.far hf, this.2.far hf⟩
/-- what stands on the left of a node is written -/
theorem AnyN.setL {s g c j : Nat} {X : Nat → Prop} {w : World} {vs : List (Value × Value)} {f : List Nz} (h : AnyN s X w g c vs f) {p : Value × Value} {nd : Nz} (hp : vs[j]? = some p) (hnd : f[j]? = some nd) (v : Value) (l : List Int) (hv : IntsA s X w v l) :
    AnyN s X (w.setCell ⟨g, j * 2, none⟩ v) g c (vs.set j (v, p.2)) (f.set j (l, nd.2)) ∧ Only w (w.setCell ⟨g, j * 2, none⟩ v) (fun b => b = g) := by
  have s1 := (World.ownsRow.stored h.nodes (j * 2) v).1
  have ho : Only w (w.setCell ⟨g, j * 2, none⟩ v) (fun b => b = g) := Only.of_set (F := fun b => b = g) v rfl
  have hf : Far s X w (w.setCell ⟨g, j * 2, none⟩ v) := ho.far (fun b e => Or.inr (e ▸ h.xg))
  have hr := rowN2_at vs j p hp
  have e : (rowN2 vs).set (j * 2) v = rowN2 (vs.set j (v, p.2)) := by
    rw [← rowN2_set]
    apply List.ext_getElem?
    intro i
    by_cases hi : i = j * 2 + 1
    · subst hi
      rw [List.getElem?_set_self (by rw [List.length_set]; exact get_lt hr.2), List.getElem?_set_ne (by omega)]
      exact hr.2
    · rw [List.getElem?_set_ne (by omega : j * 2 + 1 ≠ i)]
  rw [e] at s1
  refine ⟨⟨by rw [List.length_set]; exact s1, by rw [List.length_set, List.length_set]; exact h.len, fun i n0 q hi hq => ?_, h.xg⟩, ho⟩
  rcases set_get hi with ⟨e1, e2⟩ | ⟨h3, hi2⟩
  · subst e1 e2
    rcases set_get hq with ⟨_, e4⟩ | ⟨h4, _⟩
    · subst e4
      exact ⟨hv.far hf, ((h.list i nd p hnd hp).2).far hf⟩
    · exact absurd rfl h4
  · rcases set_get hq with ⟨e3, _⟩ | ⟨_, hq2⟩
    · exact absurd e3 h3
    · have := h.list i n0 q hi2 hq2
      exact ⟨this.1.far hf, this.2.far hf⟩
/-- a list of the call's own comes to stand on the left of a node -/
theorem any_left {s g c j q : Nat} {X : Nat → Prop} {w w' : World} {vs : List (Value × Value)} {f : List Nz} {p : Value × Value} {nd : Nz} {v : Value} {l : List Int} (h : AnyN s X w g c vs f) (hp : vs[j]? = some p) (hnd : f[j]? = some nd) (ho : Only w w' (fun b => b = q)) (hq : q < s) (hs : s ≤ w.heap.size) (hv : OwnI w' w.heap.size v l) (hX : ∀ b, X b → b < w.heap.size) :
    AnyN s X (w'.setCell ⟨g, j * 2, none⟩ v) g c (vs.set j (v, p.2)) (f.set j (l, nd.2)) ∧ Only w' (w'.setCell ⟨g, j * 2, none⟩ v) (fun b => b = g) :=
  (h.only ho (fun b e => Or.inl (by omega))).setL hp hnd v l (IntsA.own hv hs (fun b e e2 => by have := (World.ownsRow.lt hv b e).1; have := hX b e2; omega))
theorem ints_oneZ (w : World) (x : Int) (t : TypeId) : IntsZ (w.alloc (.cells #[.int .i64 x] t)) w.heap.size (w.heap.size + 1) (.slice (some ⟨w.heap.size, 0, none⟩) 1 1) [x] := by
  refine ⟨_, _, rfl, by simp, fun j y hy => ⟨w.heap.size, 0, rfl, Nat.le_refl _, by omega, ?_⟩⟩
  have hj : j = 0 := by have := get_lt hy; simp at this; omega
  subst hj
  simp at hy
  subst hy
  go_simp
theorem nodesZ_row {s g c : Nat} {w : World} {vs : List (Value × Value)} {f : List Nz} (hn : w.ownsRow s 57 2 (.slice (some ⟨g, 0, none⟩) f.length c) f.length (rowN2 vs)) (hl : vs.length = f.length)
    (hi : ∀ (j : Nat) (nd : Nz) (p : Value × Value), f[j]? = some nd → vs[j]? = some p → IntsZ w s w.heap.size p.1 nd.1 ∧ IntsZ w s w.heap.size p.2 nd.2) : NodesZ w s w.heap.size (.slice (some ⟨g, 0, none⟩) f.length c) f := by
  have hlt := World.ownsRow.lt hn _ rfl
  refine ⟨_, c, rfl, World.ownsRow.caps hn, fun j nd hj => ?_⟩
  have hjl := get_lt hj
  obtain ⟨p, hp⟩ := lt_get (l := vs) (i := j) (by rw [hl]; exact hjl)
  have hr := rowN2_at vs j p hp
  obtain ⟨i1, i2⟩ := hi j nd p hj hp
  refine ⟨g, 0, p.1, p.2, rfl, hlt.1, hlt.2, ?_, ?_, i1, i2⟩
  · rw [Nat.zero_add, World.ownsRow.cellAt hn (j * 2) (by omega)]; exact hr.1
  · rw [Nat.zero_add, World.ownsRow.cellAt hn (j * 2 + 1) (by omega)]; exact hr.2
/-- a node is put behind a game -/
theorem any_push {s g c g' c' : Nat} {X : Nat → Prop} {w w' : World} {vs : List (Value × Value)} {f : List Nz} {p : Value × Value} {nd : Nz} (h : AnyN s X w g c vs f) (hown : w'.ownsRow s 57 2 (.slice (some ⟨g', 0, none⟩) (f.length + 1) c') (f.length + 1) (rowN2 vs ++ [p.1, p.2])) (hf : Far s X w w')
    (hp : IntsZ w' s w'.heap.size p.1 nd.1 ∧ IntsZ w' s w'.heap.size p.2 nd.2) : NodesZ w' s w'.heap.size (.slice (some ⟨g', 0, none⟩) (f ++ [nd]).length c') (f ++ [nd]) := by
  refine nodesZ_row (vs := vs ++ [p]) (by rw [rowN2_snoc, List.length_append]; exact hown) (by simp [h.len]) (fun j n0 q h1 h2 => ?_)
  rcases Nat.lt_or_ge j f.length with hlt | hge
  · rw [List.getElem?_append_left hlt] at h1
    rw [List.getElem?_append_left (by rw [h.len]; exact hlt)] at h2
    have := h.list j n0 q h1 h2
    exact ⟨this.1 w' hf, this.2 w' hf⟩
  · have hj := get_lt h1
    simp at hj
    have : j = f.length := by omega
    subst this
    rw [List.getElem?_append_right (Nat.le_refl _)] at h1
    rw [← h.len, List.getElem?_append_right (Nat.le_refl _)] at h2
    simp at h1 h2
    subst h1 h2
    exact hp
/-- the game without its last node -/
theorem NodesZ.take {w : World} {lo hi g c n : Nat} {f : List Nz} (h : NodesZ w lo hi (.slice (some ⟨g, 0, none⟩) f.length c) f) (hn : n ≤ f.length) : NodesZ w lo hi (.slice (some ⟨g, 0, none⟩) (f.take n).length c) (f.take n) := by
  obtain ⟨ao, c', e, hl, hnn⟩ := h
  obtain ⟨q1, _, q3⟩ := slice_inj e
  subst q1 q3
  have hlen : (f.take n).length = n := by rw [List.length_take]; omega
  refine ⟨_, c, rfl, by rw [hlen]; omega, fun j nd hj => ?_⟩
  have hjn : j < n := by have := get_lt hj; omega
  rw [List.getElem?_take_of_lt hjn] at hj
  exact hnn j nd hj
end

section
open Go.RowKit
set_option linter.unusedVariables false
set_option linter.unusedSimpArgs false
/-- what a draw of a game gives -/
def AnyPost (W0 w : World) (q : Nat) (v : Value) (N : Nat) (e : Ending) (w' : World) : Prop := ∃ (a : Option Addr) (c : Nat) (f : List Nz), e = .returned (.agg #[.slice a f.length c]) ∧ NodesZ w' w.heap.size w'.heap.size (.slice a f.length c) f ∧ f.length ≤ 20000 ∧ Cur W0 w' q v N ∧ Only w w' (fun b => b = q)
theorem any_end {W0 w wz : World} {q N N' : Nat} {v : Value} {a : Option Addr} {c : Nat} {f : List Nz} (hn : NodesZ wz (w.heap.size + 1) wz.heap.size (.slice a f.length c) f) (hl : f.length ≤ 20000) (hC : Cur W0 wz q v N') (hN : N' ≤ N) (ho : Only w wz (fun b => b = q)) (hW : W0.heap.size ≤ w.heap.size) (hq : q < w.heap.size) :
    AnyPost W0 w q v N (.returned (.agg #[.slice a f.length c])) (wz.setCell ⟨w.heap.size, 0, none⟩ (.slice a f.length c)) := by
  have hs : Only wz (wz.setCell ⟨w.heap.size, 0, none⟩ (.slice a f.length c)) (fun b => b = w.heap.size) := Only.of_set (F := fun b => b = w.heap.size) _ rfl
  refine ⟨a, c, f, rfl, (hn.keep (fun b o h1 h2 => hs.cell h2 (by omega))).wide (by omega) (by simp), hl, (hC.only hs (fun g e => by omega) (by omega)).mono hN, ho.trans hs (fun i hi e => by omega)⟩
set_option maxRecDepth 100000 in
set_option maxHeartbeats 8000000 in
theorem any_draw (W0 w : World) (q n N : Nat) (v : Value) (hc : CodeIn W0 v n) (hn : n ≤ 1000000) (h : Cur W0 w q v N) (k : Nat) (hk : k ≤ 6) (hN : N + 12 * k + 20 ≤ 80000) :
    Calls Try.prog 30 #[.pointer (some ⟨q, 0, none⟩), .int .i64 k] w (AnyPost W0 w q v (N + 12 * k + 12)) := by
  obtain ⟨iN, hiN, hzN0, hzN1, hzN2⟩ := info_parts infoNodeA
  obtain ⟨i0, hi0, hz0, hz1, hz2⟩ := info_parts infoIntA
  have hW0 : W0.heap.size ≤ w.heap.size := h.2.1.size
  have hq0 := h.1
  have hql := h.lt
  have HPK := Lib.hid fun (W : World) (M m : Nat) (hM : M ≤ 90000) (h1 : 1 ≤ m) (h2 : m ≤ 100000) (hW : Cur W0 W q v M) => pick_calls W0 W q n M m v hc hn hW hM h1 h2
  have HAG := Lib.hid fun (W : World) (M g c : Nat) (l : List Int) (hM : M ≤ 90000) (h1 : 1 ≤ l.length) (h2 : l.length ≤ 100000) (hW : Cur W0 W q v M) (hs : IntsAt W g l) (hgq : g ≠ q) => among_calls W0 W q n M g c v l hc hn hW hM h1 h2 hs hgq
  have hal : Below w.heap.size w (w.alloc (.cells #[.slice none 0 0] 28)) := (Below.refl _ _).alloc (Nat.le_refl _) _
  have hzA : (w.alloc (.cells #[.slice none 0 0] 28)).heap.size = w.heap.size + 1 := by simp
  have hx0 : BoxAt (w.alloc (.cells #[.slice none 0 0] 28)) w.heap.size (.slice none 0 0) := ⟨by go_simp, by go_simp⟩
  have HX0 := Lib.hid hx0
  have HAL := Lib.hid hal
  have C0 := Lib.hid (form_draw W0 (w.alloc (.cells #[.slice none 0 0] 28)) q n N v hc hn (h.below hal) k hk hN)
  rw [hzA] at C0
  clear h hc hn hal hx0
  go_enter Try.func30, Try.ntmps30
  go_wp2_with fail
  refine C0.out.mono ?_
  rintro e w1 ⟨u, f, rfl, hd, hfit, hfl, hC1, hO1⟩
  obtain ⟨gN, cN, vs, rfl, ha⟩ := AnyN.of hd hfit.pos w1.heap.size (Nat.le_refl _)
  have hp := hfit.pos
  have hsm : ∀ nd ∈ f.map upN, nd.1.length ≤ 24 := fun nd hnd => by
    obtain ⟨x, hx, rfl⟩ := List.mem_map.1 hnd
    have := (hfit.small x hx).1
    simpa [upN, upL] using this
  have hdl : deepN k ≤ 17749 := by rw [← deepN_six]; exact deepN_mono k 6 hk
  have hl2 : f.length ≤ 17749 := by omega
  obtain ⟨F, hF⟩ : ∃ F, f.map upN = F := ⟨_, rfl⟩
  have hFl : f.length = F.length := by rw [← hF, List.length_map]
  rw [hF] at ha hsm
  have HSM := Lib.hid hsm
  rw [hFl] at hl2 hp ⊢
  have hx1 := HX0.out.only hO1 (by omega)
  have hb1 : Below w1.heap.size w1 (w1.alloc (.cells #[.slice (some ⟨gN, 0, none⟩) F.length cN] 28)) := (Below.refl _ _).alloc (Nat.le_refl _) _
  have ho1 : Only w w1 (fun b => b = q) := (Only.of_below (F := fun b => b = q) HAL.out).trans hO1 (fun _ _ h => h)
  have hs1 := hO1.size
  rw [hzA] at hs1
  have hbx : BoxAt (w1.alloc (.cells #[.slice (some ⟨gN, 0, none⟩) F.length cN] 28)) w1.heap.size (.slice (some ⟨gN, 0, none⟩) F.length cN) := ⟨by go_simp, by go_simp⟩
  have hgl := World.ownsRow.lt ha.nodes gN rfl
  have HA2 := Lib.hid (ha.below hb1)
  have HX2 := Lib.hid (hx1.below hb1)
  have HC2 := Lib.hid (hC1.below hb1)
  have HO2 : Hid (Only w (w1.alloc (.cells #[.slice (some ⟨gN, 0, none⟩) F.length cN] 28)) (fun b => b = q)) := Lib.hid (ho1.trans (Only.of_below (F := fun b => b = q) hb1) (fun _ _ h => h))
  have HB2 := Lib.hid hbx
  have hzB : (w1.alloc (.cells #[.slice (some ⟨gN, 0, none⟩) F.length cN] 28)).heap.size = w1.heap.size + 1 := by simp
  clear hsm ha hd hfit hfl hC1 hO1 hF hFl hx1 hb1 ho1 hbx C0 HX0 HAL hdl
  have hd2 := HB2.out.1
  go_upto_region 2 with fail
  generalize (w1.alloc (.cells #[.slice (some ⟨gN, 0, none⟩) F.length cN] 28)) = w2 at HA2 HX2 HC2 HO2 HB2 hzB hd2 ⊢
  generalize w1.heap.size = B5 at HA2 HB2 hzB hs1 hgl hd2 ⊢
  have CP := Lib.hid (HPK.out w2 (N + 12 * k + 4) F.length (by omega) (by omega) (by omega) HC2.out)
  go_wp2_with fail
  refine CP.out.mono ?_
  rintro e w3 ⟨⟨r, hr, rfl⟩, hC3, hg3⟩
  have ho3 := only_cur hg3
  have HA3 := Lib.hid (HA2.out.only ho3 (fun b e => Or.inl (by omega)))
  have HX3 := Lib.hid (HX2.out.only ho3 (by omega))
  have HB3 := Lib.hid (HB2.out.only ho3 (by omega))
  have HC3 := Lib.hid hC3
  have HO3 : Hid (Only w w3 (fun b => b = q)) := Lib.hid (HO2.out.trans ho3 (fun _ _ h => h))
  have hs3 := ho3.size
  clear hC3 hg3 ho3 HA2 HX2 HB2 HC2 HO2 CP hd2
  have CP := Lib.hid (HPK.out w3 (N + 12 * k + 4 + 2) 24 (by omega) (by omega) (by omega) HC3.out)
  go_wp2_with fail
  refine CP.out.mono ?_
  rintro e w4 ⟨⟨x, hx, rfl⟩, hC4, hg4⟩
  have ho4 := only_cur hg4
  have HA4 := Lib.hid (HA3.out.only ho4 (fun b e => Or.inl (by omega)))
  have HX4 := Lib.hid (HX3.out.only ho4 (by omega))
  have HB4 := Lib.hid (HB3.out.only ho4 (by omega))
  have HC4 := Lib.hid hC4
  have HO4 : Hid (Only w w4 (fun b => b = q)) := Lib.hid (HO3.out.trans ho4 (fun _ _ h => h))
  have hs4 := ho4.size
  clear hC4 hg4 ho4 HA3 HX3 HB3 HC3 HO3 CP
  have hd4 := HB4.out.1
  have hf4 := HB4.out.2
  have hX4 := HX4.out.1
  have hXf := HX4.out.2
  have r0 : (0 : Int) ≤ r := by omega
  have r1 : (r : Int) < F.length := by omega
  have hgB : gN ≠ B5 := by omega
  rcases (show x = 0 ∨ x = 1 ∨ x = 2 ∨ x = 3 ∨ 4 ≤ x by omega) with rfl | rfl | rfl | rfl | hx4
  · -- a number more on the left of a node
    obtain ⟨pr, ndr, hpr, hnr, cr1, cr2, fr1, fr2⟩ := HA4.out.at_ hr
    obtain ⟨pr1, pr2⟩ := pr
    obtain ⟨lr1, lr2⟩ := HA4.out.list r ndr _ hnr hpr
    dsimp only at lr1 lr2 cr1 cr2
    obtain ⟨ar1, dr1, hr1⟩ := lr1.shape
    subst hr1
    have hnl : ndr.1.length ≤ 24 := HSM.out ndr (List.mem_of_getElem? hnr)
    have CO := Lib.hid fun (W : World) (hW : Below w4.heap.size w4 W) => (l1OwnZ_calls (.slice ar1 ndr.1.length dr1) ndr.1 W (w.heap.size + 1) W.heap.size (by omega) (lr1 W ((Only.of_below (F := fun _ => False) hW).far (fun _ h => h.elim))) (Nat.le_refl _)).mono fun e w' h => (by
      obtain ⟨a, c, h1, h2, h3⟩ := h
      exact ⟨a, c, h1, OwnI.mono h2 hW.size, hW.trans (h3.mono hW.size), h3⟩ : ∃ a c, e = .returned (.slice a ndr.1.length c) ∧ OwnI w' w4.heap.size (.slice a ndr.1.length c) ndr.1 ∧ Below w4.heap.size w4 w' ∧ Below W.heap.size W w')
    have CA := Lib.hid fun (W : World) (g : Nat) (hW : Below w4.heap.size w4 W) (hg : ∀ j x, ([0, (r : Int), -1, 1] : List Int)[j]? = some x → W.cell? ⟨g, j, none⟩ = some (.int .i64 x)) (hgq : g ≠ q) => show Calls Try.prog 64 #[.pointer (some ⟨q, 0, none⟩), .slice (some ⟨g, 0, none⟩) 4 4] W fun e w' => (∃ x : Int, e = .returned (.int .i64 x)) ∧ Cur W0 w' q v (N + 12 * k + 10) ∧ Only W w' (fun b => b = q) from
      (HAG.out W (N + 12 * k + 8) g 4 [0, (r : Int), -1, 1] (by omega) (by simp) (by simp) (HC4.out.below hW) hg hgq).mono fun e w' h => (by
        obtain ⟨⟨x, _, h1⟩, h2, h3⟩ := h
        exact ⟨⟨x, h1⟩, h2, only_cur h3⟩)
    have HSA := Lib.hid fun (W : World) (o : Obj) (h1 : W.cell? ⟨B5, 0, none⟩ = some (.slice (some ⟨gN, 0, none⟩) F.length cN)) (h2 : Only w4 W (fun b => b = q ∨ b = gN)) => show (W.alloc o).cell? ⟨B5, 0, none⟩ = some (.slice (some ⟨gN, 0, none⟩) F.length cN) ∧ Only w4 (W.alloc o) (fun b => b = q ∨ b = gN) from ⟨box_keep h1 ((Below.refl _ _).alloc (Nat.le_refl _) _), h2.trans (Only.of_below (F := fun b => b = q ∨ b = gN) ((Below.refl _ _).alloc (Nat.le_refl _) _)) (fun _ _ h => h)⟩
    have HST := Lib.hid fun (W : World) (u : Value) (h1 : W.cell? ⟨B5, 0, none⟩ = some (.slice (some ⟨gN, 0, none⟩) F.length cN)) (h2 : Only w4 W (fun b => b = q ∨ b = gN)) => show (W.setCell ⟨gN, r * 2, none⟩ u).cell? ⟨B5, 0, none⟩ = some (.slice (some ⟨gN, 0, none⟩) F.length cN) ∧ Only w4 (W.setCell ⟨gN, r * 2, none⟩ u) (fun b => b = q ∨ b = gN) from by
      have hs : Only W (W.setCell ⟨gN, r * 2, none⟩ u) (fun b => b = q ∨ b = gN) := Only.of_set (F := fun b => b = q ∨ b = gN) u (Or.inr rfl)
      exact ⟨(hs.cell (block_of_cell h1) (by omega)).trans h1, h2.trans hs (fun _ _ h => h)⟩
    have HSW := Lib.hid fun (W : World) (h : Only w4 W (fun b => b = q)) => show W.cell? ⟨B5, 0, none⟩ = some (.slice (some ⟨gN, 0, none⟩) F.length cN) ∧ Only w4 W (fun b => b = q ∨ b = gN) from ⟨(h.cell (by omega) (by omega)).trans hd4, h.mono (fun _ _ e => Or.inl e)⟩
    have HCR := Lib.hid fun (W : World) (h : Only w4 W (fun b => b = q)) => show W.cell? ⟨gN, r * 2, none⟩ = some (.slice ar1 ndr.1.length dr1) ∧ W.frozen? ⟨gN, r * 2, none⟩ = false from ⟨(h.cell (by omega) (by omega)).trans cr1, (h.frozen (by omega) (by omega)).trans fr1⟩
    have hbd : Below w4.heap.size w4 w4.drew := below_drewN (Below.refl _ _) 1
    have hbl : Below w4.heap.size w4 (w4.drew.alloc (.cells #[.int .i64 0, .int .i64 (r : Int), .int .i64 (-1), .int .i64 1] 3)) := hbd.alloc hbd.size _
    have hS0 := HSW.out _ (Only.of_below (F := fun b => b = q) hbd)
    have HL4 : Hid (∀ (W : World) (j : Nat) (x : Int), ([0, (r : Int), -1, 1] : List Int)[j]? = some x → (W.alloc (.cells #[.int .i64 0, .int .i64 (r : Int), .int .i64 (-1), .int .i64 1] 3)).cell? ⟨W.heap.size, j, none⟩ = some (.int .i64 x)) := Lib.hid (fun W j x hj => by
      rw [cell_of_block (heap_alloc_new W _) j]
      match j, hj with
      | 0, hj => simpa using hj
      | 1, hj => simpa using hj
      | 2, hj => simpa using hj
      | 3, hj => simpa using hj
      | n + 4, hj => simp at hj)
    have HAP := Lib.hid fun (wa wb : World) (aL : Option Addr) (cL : Nat) (hoL : OwnI wa w4.heap.size (.slice aL ndr.1.length cL) ndr.1) (hba : Below w4.heap.size w4 wa) (hob : Only wa wb (fun b => b = q)) => show OwnI wb w4.heap.size (.slice aL ndr.1.length cL) ndr.1 ∧ Only w4 wb (fun b => b = q) from
      ⟨own_only hoL hob (fun g e1 e2 => by have := (World.ownsRow.lt hoL g e1).1; omega), (Only.of_below (F := fun b => b = q) hba).trans hob (fun _ _ h => h)⟩
    have HGR := Lib.hid fun (wb w7 : World) (x : Int) (aL : Option Addr) (cL : Nat) (v7 : Value) (ho : Only w4 wb (fun b => b = q)) (hoL : OwnI wb w4.heap.size (.slice aL ndr.1.length cL) ndr.1) (hown7 : w7.ownsRow w4.heap.size 3 1 v7 (ndr.1.length + [x].length) (ndr.1.map (Value.int .i64) ++ [x].map (Value.int .i64))) (hgrow7 : (wb.alloc (.cells #[.int .i64 x] 3)).grownBy w7 (Value.slice aL ndr.1.length cL).ownBlock) => show OwnI w7 w4.heap.size v7 (ndr.1 ++ [x]) ∧ Only w4 w7 (fun b => b = q) from by
      refine ⟨by unfold OwnI; rw [List.length_append, List.map_append]; exact hown7, ?_⟩
      refine (ho.trans (Only.of_below (F := fun b => b = q) ((Below.refl _ _).alloc (Nat.le_refl _) _)) (fun _ _ h => h)).trans (Only.of_grown (F := fun b => w4.heap.size ≤ b) hgrow7 (fun g e => (World.ownsRow.lt hoL g e).1)) (fun i hi e => by omega)
    have kA : (w4.alloc (.cells #[.int .i64 0, .int .i64 (r : Int), .int .i64 (-1), .int .i64 1] 3)).cell? ⟨gN, r * 2, none⟩ = some (.slice ar1 ndr.1.length dr1) := (HCR.out _ (Only.of_below (F := fun b => b = q) ((Below.refl _ _).alloc (Nat.le_refl _) _))).1
    have HLR := Lib.hid lr1
    clear lr1 lr2 cr2 fr2 fr1
    go_upto_region 5 with fail
    go_wp2_with fail
    -- REGION5
    refine wp_region_held_drew (S := (fun W : World => W.cell? ⟨B5, 0, none⟩ = some (.slice (some ⟨gN, 0, none⟩) F.length cN) ∧ Only w4 W (fun b => b = q ∨ b = gN))) (by kernel_rfl) hS0 (fun hHeld => ?_)
    refine wpAnyH_take (i := 0) (v := ?_) rfl (by kernel_rfl) (by kernel_rfl) (by kernel_rfl) (fun _ _ _ h => h) (Or.inl ⟨by rfl, ?_⟩) hHeld ?_
    rotate_left
    · intro W hW
      obtain ⟨z1, z2⟩ := hW
      first | (go_simp; done) | (go_simp; with_reducible rfl)
    try simp only [List.getElem_toArray, List.getElem_cons_succ, List.getElem_cons_zero, Act.put, List.setIfInBounds_toArray, List.set_cons_zero, List.set_cons_succ]
    refine wpAnyH_take (i := 1) (v := ?_) rfl (by kernel_rfl) (by kernel_rfl) (by kernel_rfl) (fun _ _ _ h => h) (Or.inl ⟨by rfl, ?_⟩) hHeld ?_
    rotate_left
    · intro W hW
      obtain ⟨z1, z2⟩ := hW
      first | (go_simp; done) | (go_simp; with_reducible rfl)
    try simp only [List.getElem_toArray, List.getElem_cons_succ, List.getElem_cons_zero, Act.put, List.setIfInBounds_toArray, List.set_cons_zero, List.set_cons_succ]
    refine wpAnyH_take (i := 2) (v := ?_) rfl (by kernel_rfl) (by kernel_rfl) (by kernel_rfl) (fun _ _ _ h => h) (Or.inl ⟨by rfl, ?_⟩) hHeld ?_
    rotate_left
    · intro W hW
      obtain ⟨z1, z2⟩ := hW
      first | (go_simp; done) | (go_simp; with_reducible rfl)
    try simp only [List.getElem_toArray, List.getElem_cons_succ, List.getElem_cons_zero, Act.put, List.setIfInBounds_toArray, List.set_cons_zero, List.set_cons_succ]
    refine wpAnyH_take (i := 3) (v := ?_) rfl (by kernel_rfl) (by kernel_rfl) (by kernel_rfl) (fun _ _ _ h => h) (Or.inl ⟨by rfl, ?_⟩) hHeld ?_
    rotate_left
    · intro W hW
      obtain ⟨z1, z2⟩ := hW
      first | (go_simp; done) | (go_simp; with_reducible rfl)
    try simp only [List.getElem_toArray, List.getElem_cons_succ, List.getElem_cons_zero, Act.put, List.setIfInBounds_toArray, List.set_cons_zero, List.set_cons_succ]
    refine wpAnyH_take (i := 4) (v := ?_) rfl (by kernel_rfl) (by kernel_rfl) (by kernel_rfl) (fun _ _ _ h => h) (Or.inl ⟨by rfl, ?_⟩) hHeld ?_
    rotate_left
    · intro W hW
      obtain ⟨z1, z2⟩ := hW
      first | (go_simp; done) | (go_simp; with_reducible rfl)
    try simp only [List.getElem_toArray, List.getElem_cons_succ, List.getElem_cons_zero, Act.put, List.setIfInBounds_toArray, List.set_cons_zero, List.set_cons_succ]
    refine wpAnyH_take (i := 5) (v := ?_) rfl (by kernel_rfl) (by kernel_rfl) (by kernel_rfl) (fun _ _ _ h => h) (Or.inl ⟨by rfl, ?_⟩) hHeld ?_
    rotate_left
    · intro W hW
      obtain ⟨z1, z2⟩ := hW
      first | (go_simp; done) | (go_simp; with_reducible rfl)
    try simp only [List.getElem_toArray, List.getElem_cons_succ, List.getElem_cons_zero, Act.put, List.setIfInBounds_toArray, List.set_cons_zero, List.set_cons_succ]
    refine wpAnyH_take (i := 6) (v := ?_) rfl (by kernel_rfl) (by kernel_rfl) (by kernel_rfl) (fun _ _ _ h => h) (Or.inl ⟨by rfl, ?_⟩) hHeld ?_
    rotate_left
    · intro W hW
      obtain ⟨z1, z2⟩ := hW
      first | (go_simp; done) | (go_simp; with_reducible rfl)
    try simp only [List.getElem_toArray, List.getElem_cons_succ, List.getElem_cons_zero, Act.put, List.setIfInBounds_toArray, List.set_cons_zero, List.set_cons_succ]
    refine wpAnyH_take (i := 7) (v := ?_) rfl (by kernel_rfl) (by kernel_rfl) (by kernel_rfl) (fun _ _ _ h => h) (Or.inl ⟨by rfl, ?_⟩) hHeld ?_
    rotate_left
    · intro W hW
      obtain ⟨z1, z2⟩ := hW
      first | (go_simp; done) | (go_simp; with_reducible rfl)
    try simp only [List.getElem_toArray, List.getElem_cons_succ, List.getElem_cons_zero, Act.put, List.setIfInBounds_toArray, List.set_cons_zero, List.set_cons_succ]
    refine wpAnyH_take (i := 10) (v := ?_) rfl (by kernel_rfl) (by kernel_rfl) (by kernel_rfl) (fun _ _ _ h => h) (Or.inl ⟨by rfl, ?_⟩) hHeld ?_
    rotate_left
    · intro W hW
      obtain ⟨z1, z2⟩ := hW
      first | (go_simp; done) | (go_simp; with_reducible rfl)
    try simp only [List.getElem_toArray, List.getElem_cons_succ, List.getElem_cons_zero, Act.put, List.setIfInBounds_toArray, List.set_cons_zero, List.set_cons_succ]
    refine wpAnyH_take (i := 11) (v := ?_) rfl (by kernel_rfl) (by kernel_rfl) (by kernel_rfl) (fun _ _ _ h => h) (Or.inl ⟨by rfl, ?_⟩) hHeld ?_
    rotate_left
    · intro W hW
      obtain ⟨z1, z2⟩ := hW
      first | (go_simp; done) | (go_simp; with_reducible rfl)
    try simp only [List.getElem_toArray, List.getElem_cons_succ, List.getElem_cons_zero, Act.put, List.setIfInBounds_toArray, List.set_cons_zero, List.set_cons_succ]
    refine wpAnyH_ready (rs := [8, 12]) (by kernel_rfl) (by simp) ?_
    refine AllReadyH.cons rfl (fun K hK => ?_) ?_
    · go_simp
      refine hK.out _ _ (hS0) (fun hH1 => ?_)
      clear hK K
      try simp only [List.getElem_toArray, List.getElem_cons_succ, List.getElem_cons_zero, Act.put, List.setIfInBounds_toArray, List.set_cons_zero, List.set_cons_succ]
      refine wpAnyH_ready (rs := [9, 12]) (by kernel_rfl) (by simp) ?_
      refine AllReadyH.cons rfl (fun K hK => ?_) ?_
      · have hway : True := trivial
        go_simp
        go_at_call 63
        refine (CO.out _ hbd).mono ?_
        rintro e wa ⟨aL, cL, rfl, hoL, hba, hbw⟩
        have hSa := HSW.out _ (Only.of_below (F := fun b => b = q) hba)
        have HOL := Lib.hid hoL
        clear hoL hbw
        go_wp2_with fail
        refine hK.out _ _ (hSa) (fun hH2 => ?_)
        clear hK K
        try simp only [List.getElem_toArray, List.getElem_cons_succ, List.getElem_cons_zero, Act.put, List.setIfInBounds_toArray, List.set_cons_zero, List.set_cons_succ]
        refine wpAnyH_ready (rs := [12]) (by kernel_rfl) (by simp) ?_
        refine AllReadyH.cons rfl (fun K hK => ?_) AllReadyH.nil
        go_simp
        refine hK.out _ _ (HSA.out _ _ hSa.1 hSa.2) (fun hH2b => ?_)
        clear hK K
        try simp only [List.getElem_toArray, List.getElem_cons_succ, List.getElem_cons_zero, Act.put, List.setIfInBounds_toArray, List.set_cons_zero, List.set_cons_succ]
        refine wpAnyH_ready (rs := [13]) (by kernel_rfl) (by simp) ?_
        refine AllReadyH.cons rfl (fun K hK => ?_) AllReadyH.nil
        go_simp
        go_at_call 64
        refine (CA.out _ wa.heap.size (hba.alloc hba.size _) (HL4.out wa) (by have := hba.size; omega)).mono ?_
        rintro e wb ⟨⟨x, rfl⟩, hcb, hob⟩
        have hoB : Only wa wb (fun b => b = q) := (Only.of_below (F := fun b => b = q) ((Below.refl _ _).alloc (Nat.le_refl _) _)).trans hob (fun _ _ h => h)
        have hoW := HAP.out wa wb aL cL HOL.out hba hoB
        have hSb := HSW.out _ hoW.2
        have HOW := Lib.hid hoW
        have HCB := Lib.hid hcb
        have HWN := Lib.hid (World.ownsRow.alloc hoW.1 (.cells #[.int .i64 x] 3))
        have HSZ : Hid (w4.heap.size ≤ (wb.alloc (.cells #[.int .i64 x] 3)).heap.size) := Lib.hid (by have := hoW.2.size; simp; omega)
        clear hcb hob hoB hoW
        go_wp2_with fail
        refine hK.out _ _ (hSb) (fun hH3 => ?_)
        clear hK K
        try simp only [List.getElem_toArray, List.getElem_cons_succ, List.getElem_cons_zero, Act.put, List.setIfInBounds_toArray, List.set_cons_zero, List.set_cons_succ]
        refine wpAnyH_ready (rs := [14]) (by kernel_rfl) (by simp) ?_
        refine AllReadyH.cons rfl (fun K hK => ?_) AllReadyH.nil
        go_simp
        refine hK.out _ _ (HSA.out _ _ hSb.1 hSb.2) (fun hH4 => ?_)
        clear hK K
        try simp only [List.getElem_toArray, List.getElem_cons_succ, List.getElem_cons_zero, Act.put, List.setIfInBounds_toArray, List.set_cons_zero, List.set_cons_succ]
        refine wpAnyH_ready (rs := [15]) (by kernel_rfl) (by simp) ?_
        refine AllReadyH.cons rfl (fun K hK => ?_) AllReadyH.nil
        refine step_app_ints rfl _ _ rfl HWN.out rfl (ints_oneZ wb x 3) rfl (by simp; omega) HSZ.out ?_
        intro v7 w7 hown7 hgrow7 hat7
        have hG7 := HGR.out wb w7 x aL cL v7 HOW.out.2 HOW.out.1 hown7 hgrow7
        obtain ⟨a7, c7, hv7⟩ := hG7.1.form
        have hv8 : v7 = .slice a7 (ndr.1.length + 1) c7 := by rw [hv7]; simp
        clear hv7
        subst hv8
        have hSc := HSW.out _ hG7.2
        have kS := (HCR.out _ hG7.2).1
        have kF := (HCR.out _ hG7.2).2
        have HG7 := Lib.hid hG7
        have HFW : Hid (Only wb w7 (fun b => w4.heap.size ≤ b)) := Lib.hid ((Only.of_below (F := fun b => w4.heap.size ≤ b) ((Below.refl _ _).alloc (Nat.le_refl _) _)).trans (Only.of_grown (F := fun b => w4.heap.size ≤ b) hgrow7 (fun g e => (World.ownsRow.lt HOW.out.1 g e).1)) (fun _ _ h => h))
        clear hown7 hgrow7 hat7 hG7
        refine hK.out _ _ (hSc) (fun hH5 => ?_)
        clear hK K
        try simp only [List.getElem_toArray, List.getElem_cons_succ, List.getElem_cons_zero, Act.put, List.setIfInBounds_toArray, List.set_cons_zero, List.set_cons_succ]
        refine wpAnyH_take (i := 16) (v := ?_) rfl (by kernel_rfl) (by kernel_rfl) (by kernel_rfl) (fun _ _ _ h => h) (Or.inl ⟨by rfl, ?_⟩) hH5 ?_
        rotate_left
        · intro W hW
          obtain ⟨z1, z2⟩ := hW
          first | (go_simp; done) | (go_simp; with_reducible rfl)
        try simp only [List.getElem_toArray, List.getElem_cons_succ, List.getElem_cons_zero, Act.put, List.setIfInBounds_toArray, List.set_cons_zero, List.set_cons_succ]
        refine wpAnyH_take (i := 17) (v := ?_) rfl (by kernel_rfl) (by kernel_rfl) (by kernel_rfl) (fun _ _ _ h => h) (Or.inl ⟨by rfl, ?_⟩) hH5 ?_
        rotate_left
        · intro W hW
          obtain ⟨z1, z2⟩ := hW
          first | (go_simp; done) | (go_simp; with_reducible rfl)
        try simp only [List.getElem_toArray, List.getElem_cons_succ, List.getElem_cons_zero, Act.put, List.setIfInBounds_toArray, List.set_cons_zero, List.set_cons_succ]
        refine wpAnyH_ready (rs := [18]) (by kernel_rfl) (by simp) ?_
        refine AllReadyH.cons rfl (fun K hK => ?_) AllReadyH.nil
        go_simp
        refine hK.out _ _ (HST.out _ _ hSc.1 hSc.2) (fun hH6 => ?_)
        clear hK K
        try simp only [List.getElem_toArray, List.getElem_cons_succ, List.getElem_cons_zero, Act.put, List.setIfInBounds_toArray, List.set_cons_zero, List.set_cons_succ]
        refine wpAnyH_done (by kernel_rfl) ?_ _
        obtain ⟨a8, o8⟩ := any_left HA4.out hpr hnr HG7.out.2 (by omega) (by omega) HG7.out.1 (fun b e => by rcases e with e | e <;> omega)
        have hlF : (F.set r (ndr.1 ++ [x], ndr.2)).length = F.length := by rw [List.length_set]
        have hn8 := a8.nodesZ
        have hx7 := HX4.out.only HG7.out.2 (by omega)
        have hx8 := hx7.only o8 (by omega)
        have hc8 := (HCB.out.only HFW.out (fun g e => by omega) (by omega)).only o8 (fun g e => by omega) (by omega)
        have ho8 : Only w (w7.setCell ⟨gN, r * 2, none⟩ (.slice a7 (ndr.1.length + 1) c7)) (fun b => b = q) := (HO4.out.trans HG7.out.2 (fun _ _ h => h)).trans o8 (fun i hi e => by omega)
        have d8 : (w7.setCell ⟨gN, r * 2, none⟩ (.slice a7 (ndr.1.length + 1) c7)).cell? ⟨B5, 0, none⟩ = some (.slice (some ⟨gN, 0, none⟩) F.length cN) := (HST.out _ (.slice a7 (ndr.1.length + 1) c7) hSc.1 hSc.2).1
        have hE := any_end (N := N + 12 * k + 12) hn8 (by rw [hlF]; omega) hc8 (by omega) ho8 hW0 hql
        rw [hlF] at hE
        have HE := Lib.hid hE
        obtain ⟨x8, xf8⟩ := hx8
        have hcr := World.cell?_setCell_same (w7.setCell ⟨gN, r * 2, none⟩ (.slice a7 (ndr.1.length + 1) c7)) ⟨w.heap.size, 0, none⟩ (.slice (some ⟨gN, 0, none⟩) F.length cN) x8
        clear a8 o8 hn8 hx7 hc8 ho8 hE hSc kS kF HG7 HFW HCB HOW HWN HSZ hSb hSa HOL hba
        generalize (w7.setCell ⟨gN, r * 2, none⟩ (.slice a7 (ndr.1.length + 1) c7)) = w8 at d8 x8 xf8 HE hcr ⊢
        clear HA4 HX4 HB4 HC4 HO4 HSW HSA HST HCR HL4 HAP HGR CO CA HLR
        go_wp2_with fail
        exact bodyPost_ret (v := .agg #[.slice (some ⟨gN, 0, none⟩) F.length cN]) (by simp [results, Try.results30, go_sem, hcr]) rfl HE.out
      · refine AllReadyH.cons rfl (fun K hK => ?_) AllReadyH.nil
        go_simp
        refine hK.out _ _ (HSA.out _ _ hS0.1 hS0.2) (fun hH1b => ?_)
        clear hK K
        try simp only [List.getElem_toArray, List.getElem_cons_succ, List.getElem_cons_zero, Act.put, List.setIfInBounds_toArray, List.set_cons_zero, List.set_cons_succ]
        refine wpAnyH_ready (rs := [9]) (by kernel_rfl) (by simp) ?_
        refine AllReadyH.cons rfl (fun K hK => ?_) AllReadyH.nil
        go_simp
        go_at_call 63
        refine (CO.out _ hbl).mono ?_
        rintro e wa ⟨aL, cL, rfl, hoL, hba, hbw⟩
        have hSa := HSW.out _ (Only.of_below (F := fun b => b = q) hba)
        have HOL := Lib.hid hoL
        have hkl : ∀ (j : Nat) (x : Int), ([0, (r : Int), -1, 1] : List Int)[j]? = some x → wa.cell? ⟨w4.heap.size, j, none⟩ = some (.int .i64 x) := fun j x hj => (hbw.cell (p := ⟨w4.heap.size, j, none⟩) (by simp)).trans (HL4.out w4.drew j x hj)
        clear hoL hbw
        go_wp2_with fail
        refine hK.out _ _ (hSa) (fun hH2 => ?_)
        clear hK K
        try simp only [List.getElem_toArray, List.getElem_cons_succ, List.getElem_cons_zero, Act.put, List.setIfInBounds_toArray, List.set_cons_zero, List.set_cons_succ]
        refine wpAnyH_ready (rs := [13]) (by kernel_rfl) (by simp) ?_
        refine AllReadyH.cons rfl (fun K hK => ?_) AllReadyH.nil
        go_simp
        go_at_call 64
        refine (CA.out wa w4.heap.size hba hkl (by omega)).mono ?_
        rintro e wb ⟨⟨x, rfl⟩, hcb, hob⟩
        have hoB : Only wa wb (fun b => b = q) := hob
        have hoW := HAP.out wa wb aL cL HOL.out hba hoB
        have hSb := HSW.out _ hoW.2
        have HOW := Lib.hid hoW
        have HCB := Lib.hid hcb
        have HWN := Lib.hid (World.ownsRow.alloc hoW.1 (.cells #[.int .i64 x] 3))
        have HSZ : Hid (w4.heap.size ≤ (wb.alloc (.cells #[.int .i64 x] 3)).heap.size) := Lib.hid (by have := hoW.2.size; simp; omega)
        clear hcb hob hoB hoW
        go_wp2_with fail
        refine hK.out _ _ (hSb) (fun hH3 => ?_)
        clear hK K
        try simp only [List.getElem_toArray, List.getElem_cons_succ, List.getElem_cons_zero, Act.put, List.setIfInBounds_toArray, List.set_cons_zero, List.set_cons_succ]
        refine wpAnyH_ready (rs := [14]) (by kernel_rfl) (by simp) ?_
        refine AllReadyH.cons rfl (fun K hK => ?_) AllReadyH.nil
        go_simp
        refine hK.out _ _ (HSA.out _ _ hSb.1 hSb.2) (fun hH4 => ?_)
        clear hK K
        try simp only [List.getElem_toArray, List.getElem_cons_succ, List.getElem_cons_zero, Act.put, List.setIfInBounds_toArray, List.set_cons_zero, List.set_cons_succ]
        refine wpAnyH_ready (rs := [15]) (by kernel_rfl) (by simp) ?_
        refine AllReadyH.cons rfl (fun K hK => ?_) AllReadyH.nil
        refine step_app_ints rfl _ _ rfl HWN.out rfl (ints_oneZ wb x 3) rfl (by simp; omega) HSZ.out ?_
        intro v7 w7 hown7 hgrow7 hat7
        have hG7 := HGR.out wb w7 x aL cL v7 HOW.out.2 HOW.out.1 hown7 hgrow7
        obtain ⟨a7, c7, hv7⟩ := hG7.1.form
        have hv8 : v7 = .slice a7 (ndr.1.length + 1) c7 := by rw [hv7]; simp
        clear hv7
        subst hv8
        have hSc := HSW.out _ hG7.2
        have kS := (HCR.out _ hG7.2).1
        have kF := (HCR.out _ hG7.2).2
        have HG7 := Lib.hid hG7
        have HFW : Hid (Only wb w7 (fun b => w4.heap.size ≤ b)) := Lib.hid ((Only.of_below (F := fun b => w4.heap.size ≤ b) ((Below.refl _ _).alloc (Nat.le_refl _) _)).trans (Only.of_grown (F := fun b => w4.heap.size ≤ b) hgrow7 (fun g e => (World.ownsRow.lt HOW.out.1 g e).1)) (fun _ _ h => h))
        clear hown7 hgrow7 hat7 hG7
        refine hK.out _ _ (hSc) (fun hH5 => ?_)
        clear hK K
        try simp only [List.getElem_toArray, List.getElem_cons_succ, List.getElem_cons_zero, Act.put, List.setIfInBounds_toArray, List.set_cons_zero, List.set_cons_succ]
        refine wpAnyH_take (i := 16) (v := ?_) rfl (by kernel_rfl) (by kernel_rfl) (by kernel_rfl) (fun _ _ _ h => h) (Or.inl ⟨by rfl, ?_⟩) hH5 ?_
        rotate_left
        · intro W hW
          obtain ⟨z1, z2⟩ := hW
          first | (go_simp; done) | (go_simp; with_reducible rfl)
        try simp only [List.getElem_toArray, List.getElem_cons_succ, List.getElem_cons_zero, Act.put, List.setIfInBounds_toArray, List.set_cons_zero, List.set_cons_succ]
        refine wpAnyH_take (i := 17) (v := ?_) rfl (by kernel_rfl) (by kernel_rfl) (by kernel_rfl) (fun _ _ _ h => h) (Or.inl ⟨by rfl, ?_⟩) hH5 ?_
        rotate_left
        · intro W hW
          obtain ⟨z1, z2⟩ := hW
          first | (go_simp; done) | (go_simp; with_reducible rfl)
        try simp only [List.getElem_toArray, List.getElem_cons_succ, List.getElem_cons_zero, Act.put, List.setIfInBounds_toArray, List.set_cons_zero, List.set_cons_succ]
        refine wpAnyH_ready (rs := [18]) (by kernel_rfl) (by simp) ?_
        refine AllReadyH.cons rfl (fun K hK => ?_) AllReadyH.nil
        go_simp
        refine hK.out _ _ (HST.out _ _ hSc.1 hSc.2) (fun hH6 => ?_)
        clear hK K
        try simp only [List.getElem_toArray, List.getElem_cons_succ, List.getElem_cons_zero, Act.put, List.setIfInBounds_toArray, List.set_cons_zero, List.set_cons_succ]
        refine wpAnyH_done (by kernel_rfl) ?_ _
        obtain ⟨a8, o8⟩ := any_left HA4.out hpr hnr HG7.out.2 (by omega) (by omega) HG7.out.1 (fun b e => by rcases e with e | e <;> omega)
        have hlF : (F.set r (ndr.1 ++ [x], ndr.2)).length = F.length := by rw [List.length_set]
        have hn8 := a8.nodesZ
        have hx7 := HX4.out.only HG7.out.2 (by omega)
        have hx8 := hx7.only o8 (by omega)
        have hc8 := (HCB.out.only HFW.out (fun g e => by omega) (by omega)).only o8 (fun g e => by omega) (by omega)
        have ho8 : Only w (w7.setCell ⟨gN, r * 2, none⟩ (.slice a7 (ndr.1.length + 1) c7)) (fun b => b = q) := (HO4.out.trans HG7.out.2 (fun _ _ h => h)).trans o8 (fun i hi e => by omega)
        have d8 : (w7.setCell ⟨gN, r * 2, none⟩ (.slice a7 (ndr.1.length + 1) c7)).cell? ⟨B5, 0, none⟩ = some (.slice (some ⟨gN, 0, none⟩) F.length cN) := (HST.out _ (.slice a7 (ndr.1.length + 1) c7) hSc.1 hSc.2).1
        have hE := any_end (N := N + 12 * k + 12) hn8 (by rw [hlF]; omega) hc8 (by omega) ho8 hW0 hql
        rw [hlF] at hE
        have HE := Lib.hid hE
        obtain ⟨x8, xf8⟩ := hx8
        have hcr := World.cell?_setCell_same (w7.setCell ⟨gN, r * 2, none⟩ (.slice a7 (ndr.1.length + 1) c7)) ⟨w.heap.size, 0, none⟩ (.slice (some ⟨gN, 0, none⟩) F.length cN) x8
        clear a8 o8 hn8 hx7 hc8 ho8 hE hSc kS kF HG7 HFW HCB HOW HWN HSZ hSb hSa HOL hba
        generalize (w7.setCell ⟨gN, r * 2, none⟩ (.slice a7 (ndr.1.length + 1) c7)) = w8 at d8 x8 xf8 HE hcr ⊢
        clear HA4 HX4 HB4 HC4 HO4 HSW HSA HST HCR HL4 HAP HGR CO CA HLR
        go_wp2_with fail
        exact bodyPost_ret (v := .agg #[.slice (some ⟨gN, 0, none⟩) F.length cN]) (by simp [results, Try.results30, go_sem, hcr]) rfl HE.out
    · refine AllReadyH.cons rfl (fun K hK => ?_) AllReadyH.nil
      go_simp
      refine hK.out _ _ (HSA.out _ _ hS0.1 hS0.2) (fun hH1b => ?_)
      clear hK K
      try simp only [List.getElem_toArray, List.getElem_cons_succ, List.getElem_cons_zero, Act.put, List.setIfInBounds_toArray, List.set_cons_zero, List.set_cons_succ]
      refine wpAnyH_ready (rs := [8]) (by kernel_rfl) (by simp) ?_
      refine AllReadyH.cons rfl (fun K hK => ?_) AllReadyH.nil
      go_simp
      refine hK.out _ _ (HSA.out _ _ hS0.1 hS0.2) (fun hH1c => ?_)
      clear hK K
      try simp only [List.getElem_toArray, List.getElem_cons_succ, List.getElem_cons_zero, Act.put, List.setIfInBounds_toArray, List.set_cons_zero, List.set_cons_succ]
      refine wpAnyH_ready (rs := [9]) (by kernel_rfl) (by simp) ?_
      refine AllReadyH.cons rfl (fun K hK => ?_) AllReadyH.nil
      go_simp
      go_at_call 63
      refine (CO.out _ hbl).mono ?_
      rintro e wa ⟨aL, cL, rfl, hoL, hba, hbw⟩
      have hSa := HSW.out _ (Only.of_below (F := fun b => b = q) hba)
      have HOL := Lib.hid hoL
      have hkl : ∀ (j : Nat) (x : Int), ([0, (r : Int), -1, 1] : List Int)[j]? = some x → wa.cell? ⟨w4.heap.size, j, none⟩ = some (.int .i64 x) := fun j x hj => (hbw.cell (p := ⟨w4.heap.size, j, none⟩) (by simp)).trans (HL4.out w4.drew j x hj)
      clear hoL hbw
      go_wp2_with fail
      refine hK.out _ _ (hSa) (fun hH2 => ?_)
      clear hK K
      try simp only [List.getElem_toArray, List.getElem_cons_succ, List.getElem_cons_zero, Act.put, List.setIfInBounds_toArray, List.set_cons_zero, List.set_cons_succ]
      refine wpAnyH_ready (rs := [13]) (by kernel_rfl) (by simp) ?_
      refine AllReadyH.cons rfl (fun K hK => ?_) AllReadyH.nil
      go_simp
      go_at_call 64
      refine (CA.out wa w4.heap.size hba hkl (by omega)).mono ?_
      rintro e wb ⟨⟨x, rfl⟩, hcb, hob⟩
      have hoB : Only wa wb (fun b => b = q) := hob
      have hoW := HAP.out wa wb aL cL HOL.out hba hoB
      have hSb := HSW.out _ hoW.2
      have HOW := Lib.hid hoW
      have HCB := Lib.hid hcb
      have HWN := Lib.hid (World.ownsRow.alloc hoW.1 (.cells #[.int .i64 x] 3))
      have HSZ : Hid (w4.heap.size ≤ (wb.alloc (.cells #[.int .i64 x] 3)).heap.size) := Lib.hid (by have := hoW.2.size; simp; omega)
      clear hcb hob hoB hoW
      go_wp2_with fail
      refine hK.out _ _ (hSb) (fun hH3 => ?_)
      clear hK K
      try simp only [List.getElem_toArray, List.getElem_cons_succ, List.getElem_cons_zero, Act.put, List.setIfInBounds_toArray, List.set_cons_zero, List.set_cons_succ]
      refine wpAnyH_ready (rs := [14]) (by kernel_rfl) (by simp) ?_
      refine AllReadyH.cons rfl (fun K hK => ?_) AllReadyH.nil
      go_simp
      refine hK.out _ _ (HSA.out _ _ hSb.1 hSb.2) (fun hH4 => ?_)
      clear hK K
      try simp only [List.getElem_toArray, List.getElem_cons_succ, List.getElem_cons_zero, Act.put, List.setIfInBounds_toArray, List.set_cons_zero, List.set_cons_succ]
      refine wpAnyH_ready (rs := [15]) (by kernel_rfl) (by simp) ?_
      refine AllReadyH.cons rfl (fun K hK => ?_) AllReadyH.nil
      refine step_app_ints rfl _ _ rfl HWN.out rfl (ints_oneZ wb x 3) rfl (by simp; omega) HSZ.out ?_
      intro v7 w7 hown7 hgrow7 hat7
      have hG7 := HGR.out wb w7 x aL cL v7 HOW.out.2 HOW.out.1 hown7 hgrow7
      obtain ⟨a7, c7, hv7⟩ := hG7.1.form
      have hv8 : v7 = .slice a7 (ndr.1.length + 1) c7 := by rw [hv7]; simp
      clear hv7
      subst hv8
      have hSc := HSW.out _ hG7.2
      have kS := (HCR.out _ hG7.2).1
      have kF := (HCR.out _ hG7.2).2
      have HG7 := Lib.hid hG7
      have HFW : Hid (Only wb w7 (fun b => w4.heap.size ≤ b)) := Lib.hid ((Only.of_below (F := fun b => w4.heap.size ≤ b) ((Below.refl _ _).alloc (Nat.le_refl _) _)).trans (Only.of_grown (F := fun b => w4.heap.size ≤ b) hgrow7 (fun g e => (World.ownsRow.lt HOW.out.1 g e).1)) (fun _ _ h => h))
      clear hown7 hgrow7 hat7 hG7
      refine hK.out _ _ (hSc) (fun hH5 => ?_)
      clear hK K
      try simp only [List.getElem_toArray, List.getElem_cons_succ, List.getElem_cons_zero, Act.put, List.setIfInBounds_toArray, List.set_cons_zero, List.set_cons_succ]
      refine wpAnyH_take (i := 16) (v := ?_) rfl (by kernel_rfl) (by kernel_rfl) (by kernel_rfl) (fun _ _ _ h => h) (Or.inl ⟨by rfl, ?_⟩) hH5 ?_
      rotate_left
      · intro W hW
        obtain ⟨z1, z2⟩ := hW
        first | (go_simp; done) | (go_simp; with_reducible rfl)
      try simp only [List.getElem_toArray, List.getElem_cons_succ, List.getElem_cons_zero, Act.put, List.setIfInBounds_toArray, List.set_cons_zero, List.set_cons_succ]
      refine wpAnyH_take (i := 17) (v := ?_) rfl (by kernel_rfl) (by kernel_rfl) (by kernel_rfl) (fun _ _ _ h => h) (Or.inl ⟨by rfl, ?_⟩) hH5 ?_
      rotate_left
      · intro W hW
        obtain ⟨z1, z2⟩ := hW
        first | (go_simp; done) | (go_simp; with_reducible rfl)
      try simp only [List.getElem_toArray, List.getElem_cons_succ, List.getElem_cons_zero, Act.put, List.setIfInBounds_toArray, List.set_cons_zero, List.set_cons_succ]
      refine wpAnyH_ready (rs := [18]) (by kernel_rfl) (by simp) ?_
      refine AllReadyH.cons rfl (fun K hK => ?_) AllReadyH.nil
      go_simp
      refine hK.out _ _ (HST.out _ _ hSc.1 hSc.2) (fun hH6 => ?_)
      clear hK K
      try simp only [List.getElem_toArray, List.getElem_cons_succ, List.getElem_cons_zero, Act.put, List.setIfInBounds_toArray, List.set_cons_zero, List.set_cons_succ]
      refine wpAnyH_done (by kernel_rfl) ?_ _
      obtain ⟨a8, o8⟩ := any_left HA4.out hpr hnr HG7.out.2 (by omega) (by omega) HG7.out.1 (fun b e => by rcases e with e | e <;> omega)
      have hlF : (F.set r (ndr.1 ++ [x], ndr.2)).length = F.length := by rw [List.length_set]
      have hn8 := a8.nodesZ
      have hx7 := HX4.out.only HG7.out.2 (by omega)
      have hx8 := hx7.only o8 (by omega)
      have hc8 := (HCB.out.only HFW.out (fun g e => by omega) (by omega)).only o8 (fun g e => by omega) (by omega)
      have ho8 : Only w (w7.setCell ⟨gN, r * 2, none⟩ (.slice a7 (ndr.1.length + 1) c7)) (fun b => b = q) := (HO4.out.trans HG7.out.2 (fun _ _ h => h)).trans o8 (fun i hi e => by omega)
      have d8 : (w7.setCell ⟨gN, r * 2, none⟩ (.slice a7 (ndr.1.length + 1) c7)).cell? ⟨B5, 0, none⟩ = some (.slice (some ⟨gN, 0, none⟩) F.length cN) := (HST.out _ (.slice a7 (ndr.1.length + 1) c7) hSc.1 hSc.2).1
      have hE := any_end (N := N + 12 * k + 12) hn8 (by rw [hlF]; omega) hc8 (by omega) ho8 hW0 hql
      rw [hlF] at hE
      have HE := Lib.hid hE
      obtain ⟨x8, xf8⟩ := hx8
      have hcr := World.cell?_setCell_same (w7.setCell ⟨gN, r * 2, none⟩ (.slice a7 (ndr.1.length + 1) c7)) ⟨w.heap.size, 0, none⟩ (.slice (some ⟨gN, 0, none⟩) F.length cN) x8
      clear a8 o8 hn8 hx7 hc8 ho8 hE hSc kS kF HG7 HFW HCB HOW HWN HSZ hSb hSa HOL hba
      generalize (w7.setCell ⟨gN, r * 2, none⟩ (.slice a7 (ndr.1.length + 1) c7)) = w8 at d8 x8 xf8 HE hcr ⊢
      clear HA4 HX4 HB4 HC4 HO4 HSW HSA HST HCR HL4 HAP HGR CO CA HLR
      go_wp2_with fail
      exact bodyPost_ret (v := .agg #[.slice (some ⟨gN, 0, none⟩) F.length cN]) (by simp [results, Try.results30, go_sem, hcr]) rfl HE.out
    -- END5
  · -- a node more
    have hz1' : (w4.alloc (.cells #[.int .i64 0] 3)).heap.size = w4.heap.size + 1 := by simp
    have b1 : Below w4.heap.size w4 (w4.alloc (.cells #[.int .i64 0] 3)) := (Below.refl _ _).alloc (Nat.le_refl _) _
    have b2 : Below (w4.heap.size + 1) (w4.alloc (.cells #[.int .i64 0] 3)) ((w4.alloc (.cells #[.int .i64 0] 3)).alloc (.cells #[.slice none 0 0, .slice (some ⟨w4.heap.size, 0, none⟩) 1 1] 57)) := (Below.refl _ _).alloc (by omega) _
    have b12 : Below w4.heap.size w4 ((w4.alloc (.cells #[.int .i64 0] 3)).alloc (.cells #[.slice none 0 0, .slice (some ⟨w4.heap.size, 0, none⟩) 1 1] 57)) := b1.trans (b2.mono (by omega))
    have hzz : ((w4.alloc (.cells #[.int .i64 0] 3)).alloc (.cells #[.slice none 0 0, .slice (some ⟨w4.heap.size, 0, none⟩) 1 1] 57)).heap.size = w4.heap.size + 2 := by simp
    have hcA : ((w4.alloc (.cells #[.int .i64 0] 3)).alloc (.cells #[.slice none 0 0, .slice (some ⟨w4.heap.size, 0, none⟩) 1 1] 57)).cell? ⟨w4.heap.size, 0, none⟩ = some (.int .i64 0) := (b2.cell (p := ⟨w4.heap.size, 0, none⟩) (by show w4.heap.size < w4.heap.size + 1; omega)).trans (by go_simp)
    have HCell : Hid (∀ (j : Nat) (u : Value), ([.slice none 0 0, .slice (some ⟨w4.heap.size, 0, none⟩) 1 1] : List Value)[j]? = some u → ((w4.alloc (.cells #[.int .i64 0] 3)).alloc (.cells #[.slice none 0 0, .slice (some ⟨w4.heap.size, 0, none⟩) 1 1] 57)).cell? ((⟨w4.heap.size + 1, 0, none⟩ : Addr).add j) = some u) := Lib.hid (fun j u hj => by
      rw [add_addrC, Nat.zero_add, ← hz1', cell_of_row _ _ _ _ _ (0, 0) (heap_alloc_new _ _)]
      simpa using hj)
    have HAb := Lib.hid (HA4.out.below b12)
    have HXb := Lib.hid (HX4.out.below b12)
    have HBb := Lib.hid (HB4.out.below b12)
    have HCb := Lib.hid (HC4.out.below b12)
    have HOb : Hid (Only w ((w4.alloc (.cells #[.int .i64 0] 3)).alloc (.cells #[.slice none 0 0, .slice (some ⟨w4.heap.size, 0, none⟩) 1 1] 57)) (fun b => b = q)) := Lib.hid (HO4.out.trans (Only.of_below (F := fun b => b = q) b12) (fun _ _ h => h))
    have HFb : Hid (Far (w.heap.size + 1) (fun b => b = gN ∨ b = B5) w4 ((w4.alloc (.cells #[.int .i64 0] 3)).alloc (.cells #[.slice none 0 0, .slice (some ⟨w4.heap.size, 0, none⟩) 1 1] 57))) := Lib.hid ((Only.of_below (F := fun _ => False) b12).far (fun _ h => h.elim))
    have HCA := Lib.hid hcA
    have HZZ := Lib.hid hzz
    have HB4' := Lib.hid HA4.out
    have hw4l : gN < w4.heap.size := by omega
    have hw4b : B5 < w4.heap.size := by omega
    clear hz1' b1 b2 b12 hcA hzz HX4 HB4 HC4 HO4
    go_upto_region 14 with (at_builtin; (refine wpList_append_own_at _ rfl _ _ 26 rfl (w.heap.size + 1) 57 iN (.agg #[.slice none 0 0, .slice none 0 0]) 2 48 Try.underlying26 hiN hzN0 hzN1 hzN2 rfl (by decide) _ _ _ rfl HAb.out.nodes ⟨w4.heap.size + 1, 0, none⟩ 1 1 [.slice none 0 0, .slice (some ⟨w4.heap.size, 0, none⟩) 1 1] rfl rfl HCell.out (by simp [Value.oneCell']) (by unfold maxLen; omega) (by omega) (by rw [HZZ.out]; omega) ?_); intro v7 w7 hown7 hgrow7 hnil7 hat7; obtain ⟨g7, c7, rfl, _, _⟩ := hown7.form (by omega); have ho7 : Only ((w4.alloc (.cells #[.int .i64 0] 3)).alloc (.cells #[.slice none 0 0, .slice (some ⟨w4.heap.size, 0, none⟩) 1 1] 57)) w7 (fun b => b = gN) := Only.of_grown hgrow7 (fun g e => by injection e with e; exact e.symm); have hB7 := HBb.out.only ho7 (by omega); have hd7 := hB7.1; have hf7 := hB7.2)
    have HO7 := Lib.hid ho7
    have hg7 : g7 ≠ B5 := by
      rcases hat7 with e | e
      · have e2 : g7 = gN := by injection e
        omega
      · rw [HZZ.out] at e
        have e2 : g7 = w4.heap.size + 2 := by injection e
        omega
    have hs8 : Only w7 (w7.setCell ⟨B5, 0, none⟩ (.slice (some ⟨g7, 0, none⟩) (F.length + 1) c7)) (fun b => b = B5) := Only.of_set (F := fun b => b = B5) _ rfl
    have hrow8 := own_only hown7 hs8 (fun x hx e => by have e2 : g7 = x := (by injection hx); omega)
    have hfar : Far (w.heap.size + 1) (fun b => b = gN ∨ b = B5) w4 (w7.setCell ⟨B5, 0, none⟩ (.slice (some ⟨g7, 0, none⟩) (F.length + 1) c7)) := (HFb.out.trans (ho7.far (fun b e => Or.inr (Or.inl e)))).trans (hs8.far (fun b e => Or.inr (Or.inr e)))
    have hcA8 : (w7.setCell ⟨B5, 0, none⟩ (.slice (some ⟨g7, 0, none⟩) (F.length + 1) c7)).cell? ⟨w4.heap.size, 0, none⟩ = some (.int .i64 0) := (hs8.cell (by have := ho7.size; rw [HZZ.out] at this; omega) (by omega)).trans ((ho7.cell (by rw [HZZ.out]; omega) (by omega)).trans HCA.out)
    have hsz8 : w4.heap.size + 2 ≤ (w7.setCell ⟨B5, 0, none⟩ (.slice (some ⟨g7, 0, none⟩) (F.length + 1) c7)).heap.size := by have h1 := ho7.size; have h2 := hs8.size; rw [HZZ.out] at h1; omega
    have hnz := any_push (p := (.slice none 0 0, .slice (some ⟨w4.heap.size, 0, none⟩) 1 1)) (nd := ([], [0])) HB4'.out hrow8 hfar ⟨⟨none, 0, rfl, by simp, fun j x hx => by simp at hx⟩, ⟨_, 1, rfl, by simp, fun j x hx => by
      have := get_lt hx
      simp at this
      subst this
      simp at hx
      subst hx
      exact ⟨w4.heap.size, 0, rfl, by omega, by omega, hcA8⟩⟩⟩
    have hlF : (F ++ [(([], [0]) : Nz)]).length = F.length + 1 := by simp
    have hx7 := HXb.out.only ho7 (by omega)
    have hx8 := hx7.only hs8 (by omega)
    have hc8 := (HCb.out.only ho7 (fun g e => by omega) (by omega)).only hs8 (fun g e => by omega) (by omega)
    have ho8 : Only w (w7.setCell ⟨B5, 0, none⟩ (.slice (some ⟨g7, 0, none⟩) (F.length + 1) c7)) (fun b => b = q) := (HOb.out.trans ho7 (fun i hi e => by omega)).trans hs8 (fun i hi e => by omega)
    have d8 := World.cell?_setCell_same w7 ⟨B5, 0, none⟩ (.slice (some ⟨g7, 0, none⟩) (F.length + 1) c7) hd7
    rw [hlF] at hnz
    have hE := any_end (N := N + 12 * k + 12) (f := F ++ [(([], [0]) : Nz)]) (by rw [hlF]; exact hnz) (by rw [hlF]; omega) hc8 (by omega) ho8 hW0 hql
    rw [hlF] at hE
    have HE := Lib.hid hE
    obtain ⟨x8, xf8⟩ := hx8
    have hcr := World.cell?_setCell_same (w7.setCell ⟨B5, 0, none⟩ (.slice (some ⟨g7, 0, none⟩) (F.length + 1) c7)) ⟨w.heap.size, 0, none⟩ (.slice (some ⟨g7, 0, none⟩) (F.length + 1) c7) x8
    clear hown7 hgrow7 hnil7 hat7 ho7 hB7 hs8 hrow8 hfar hcA8 hnz hx7 hc8 ho8 hE HAb HXb HBb HCb HOb HFb HCell HO7
    generalize (w7.setCell ⟨B5, 0, none⟩ (.slice (some ⟨g7, 0, none⟩) (F.length + 1) c7)) = w8 at d8 x8 xf8 HE hcr ⊢
    go_wp2_with fail
    exact bodyPost_ret (v := .agg #[.slice (some ⟨g7, 0, none⟩) (F.length + 1) c7]) (by simp [results, Try.results30, go_sem, hcr]) rfl HE.out
  · -- without the last node
    have hl1 : IntKind.i64.wrap ((F.length : Int) - 1) = ((F.length - 1 : Nat) : Int) := by rw [IntWalk.i64_in _ (by omega)]; omega
    have q0 : (0 : Int) ≤ ((F.length - 1 : Nat) : Int) := by omega
    have hcap := World.ownsRow.caps HA4.out.nodes
    have q1 : ((F.length - 1 : Nat) : Int) ≤ cN := by omega
    have htk : (F.take (F.length - 1)).length = F.length - 1 := by rw [List.length_take]; omega
    have hs5 : Only w4 (w4.setCell ⟨B5, 0, none⟩ (.slice (some ⟨gN, 0, none⟩) (F.length - 1) cN)) (fun b => b = B5) := Only.of_set (F := fun b => b = B5) _ rfl
    have hn5 := (HA4.out.only hs5 (fun b e => Or.inr ⟨Or.inr e, by omega⟩)).nodesZ.take (n := F.length - 1) (by omega)
    have hx5 := HX4.out.only hs5 (by omega)
    have hc5 := HC4.out.only hs5 (fun g e => by omega) (by omega)
    have ho5 : Only w (w4.setCell ⟨B5, 0, none⟩ (.slice (some ⟨gN, 0, none⟩) (F.length - 1) cN)) (fun b => b = q) := HO4.out.trans hs5 (fun i hi e => by omega)
    have d5 := World.cell?_setCell_same w4 ⟨B5, 0, none⟩ (.slice (some ⟨gN, 0, none⟩) (F.length - 1) cN) hd4
    have hE := any_end (N := N + 12 * k + 12) hn5 (by rw [htk]; omega) hc5 (by omega) ho5 hW0 hql
    rw [htk] at hE
    have HE := Lib.hid hE
    obtain ⟨x5, xf5⟩ := hx5
    have hcr := World.cell?_setCell_same (w4.setCell ⟨B5, 0, none⟩ (.slice (some ⟨gN, 0, none⟩) (F.length - 1) cN)) ⟨w.heap.size, 0, none⟩ (.slice (some ⟨gN, 0, none⟩) (F.length - 1) cN) x5
    clear HA4 HX4 HB4 HC4 HO4 hs5 hn5 hc5 ho5 hE
    go_upto_region 14 with fail
    generalize (w4.setCell ⟨B5, 0, none⟩ (.slice (some ⟨gN, 0, none⟩) (F.length - 1) cN)) = w5 at d5 x5 xf5 HE hcr ⊢
    go_wp2_with fail
    exact bodyPost_ret (v := .agg #[.slice (some ⟨gN, 0, none⟩) (F.length - 1) cN]) (by simp [results, Try.results30, go_sem, hcr]) rfl HE.out
  · -- two nodes in each other's place
    obtain ⟨p0, nd0, hp0, hn0, c01, c02, f01, f02⟩ := HA4.out.at_ (j := 0) hp
    obtain ⟨pr, ndr, hpr, hnr, cr1, cr2, fr1, fr2⟩ := HA4.out.at_ hr
    obtain ⟨p01, p02⟩ := p0
    obtain ⟨pr1, pr2⟩ := pr
    obtain ⟨l01, l02⟩ := HA4.out.list 0 nd0 _ hn0 hp0
    obtain ⟨lr1, lr2⟩ := HA4.out.list r ndr _ hnr hpr
    dsimp only at l01 l02 lr1 lr2 c01 c02 cr1 cr2
    obtain ⟨a01, d01, h01⟩ := l01.shape
    obtain ⟨a02, d02, h02⟩ := l02.shape
    obtain ⟨ar1, dr1, hr1⟩ := lr1.shape
    obtain ⟨ar2, dr2, hr2⟩ := lr2.shape
    subst h01 h02 hr1 hr2
    have L0 := Lib.hid (And.intro l01 l02)
    have Lr := Lib.hid (And.intro lr1 lr2)
    clear l01 l02 lr1 lr2
    simp only [Nat.zero_mul, Nat.zero_add] at c01 c02 f01 f02
    have hb5 : Below w4.heap.size w4 (w4.alloc (.cells #[.slice a01 nd0.1.length d01, .slice a02 nd0.2.length d02] 57)) := (Below.refl _ _).alloc (Nat.le_refl _) _
    have e1 : (w4.alloc (.cells #[.slice a01 nd0.1.length d01, .slice a02 nd0.2.length d02] 57)).cell? ⟨w4.heap.size, 0, none⟩ = some (.slice a01 nd0.1.length d01) := by go_simp
    have e2 : (w4.alloc (.cells #[.slice a01 nd0.1.length d01, .slice a02 nd0.2.length d02] 57)).cell? ⟨w4.heap.size, 1, none⟩ = some (.slice a02 nd0.2.length d02) := by go_simp
    have HA5 := Lib.hid (HA4.out.below hb5)
    have HX5 := Lib.hid (HX4.out.below hb5)
    have HB5 := Lib.hid (HB4.out.below hb5)
    have HC5 := Lib.hid (HC4.out.below hb5)
    have HO5 : Hid (Only w (w4.alloc (.cells #[.slice a01 nd0.1.length d01, .slice a02 nd0.2.length d02] 57)) (fun b => b = q)) := Lib.hid (HO4.out.trans (Only.of_below (F := fun b => b = q) hb5) (fun _ _ h => h))
    have hf5 : Far (w.heap.size + 1) (fun b => b = gN ∨ b = B5) w4 (w4.alloc (.cells #[.slice a01 nd0.1.length d01, .slice a02 nd0.2.length d02] 57)) := (Only.of_below (F := fun _ => False) hb5).far (fun _ h => h.elim)
    have M0 := Lib.hid (And.intro (L0.out.1.far hf5) (L0.out.2.far hf5))
    have Mr := Lib.hid (And.intro (Lr.out.1.far hf5) (Lr.out.2.far hf5))
    have hz5 : (w4.alloc (.cells #[.slice a01 nd0.1.length d01, .slice a02 nd0.2.length d02] 57)).heap.size = w4.heap.size + 1 := by simp
    have hg4 : gN < w4.heap.size := by omega
    have hB4' : B5 < w4.heap.size := by omega
    clear hb5 hf5 L0 Lr HX4 HB4 HC4 HO4
    go_upto_region 12 with fail
    clear c01 c02 cr1 cr2 f01 f02 fr1 fr2 hd4 hf4 hX4 hXf
    generalize (w4.alloc (.cells #[.slice a01 nd0.1.length d01, .slice a02 nd0.2.length d02] 57)) = w5 at e1 e2 HA5 HX5 HB5 HC5 HO5 M0 Mr hz5 ⊢
    generalize w4.heap.size = B7 at e1 e2 hz5 hg4 hB4' ⊢
    obtain ⟨cr1, cr2, fr1, fr2⟩ := HA5.out.cells hpr
    obtain ⟨c01, c02, f01, f02⟩ := HA5.out.cells hp0
    dsimp only at c01 c02 cr1 cr2
    simp only [Nat.zero_mul, Nat.zero_add] at c01 c02 f01 f02
    have dB5 := HB5.out.1
    go_wp2_with fail
    go_region
    go_upto_region 13 with fail
    obtain ⟨a6, o6⟩ := HA5.out.set (j := 0) ((.slice ar1 ndr.1.length dr1), (.slice ar2 ndr.2.length dr2)) ndr Mr.out
    simp only [Nat.zero_mul, Nat.zero_add] at a6 o6
    have hbd : Below ((w5.setCell ⟨gN, 0, none⟩ (.slice ar1 ndr.1.length dr1)).setCell ⟨gN, 1, none⟩ (.slice ar2 ndr.2.length dr2)).heap.size ((w5.setCell ⟨gN, 0, none⟩ (.slice ar1 ndr.1.length dr1)).setCell ⟨gN, 1, none⟩ (.slice ar2 ndr.2.length dr2)) ((w5.setCell ⟨gN, 0, none⟩ (.slice ar1 ndr.1.length dr1)).setCell ⟨gN, 1, none⟩ (.slice ar2 ndr.2.length dr2)).drew := below_drewN (Below.refl _ _) 1
    have o6d : Only w5 ((w5.setCell ⟨gN, 0, none⟩ (.slice ar1 ndr.1.length dr1)).setCell ⟨gN, 1, none⟩ (.slice ar2 ndr.2.length dr2)).drew (fun b => b = gN) := o6.trans (Only.of_below hbd) (fun _ _ h => h)
    have HA6 := Lib.hid (a6.below hbd)
    have HX6 := Lib.hid (HX5.out.only o6d (by omega))
    have HB6 := Lib.hid (HB5.out.only o6d (by omega))
    have HC6 := Lib.hid (HC5.out.only o6d (fun g e => by omega) (by omega))
    have HO6 : Hid (Only w ((w5.setCell ⟨gN, 0, none⟩ (.slice ar1 ndr.1.length dr1)).setCell ⟨gN, 1, none⟩ (.slice ar2 ndr.2.length dr2)).drew (fun b => b = q)) := Lib.hid (HO5.out.trans o6d (fun i hi e => by omega))
    have hf6 : Far (w.heap.size + 1) (fun b => b = gN ∨ b = B5) w5 ((w5.setCell ⟨gN, 0, none⟩ (.slice ar1 ndr.1.length dr1)).setCell ⟨gN, 1, none⟩ (.slice ar2 ndr.2.length dr2)).drew := o6d.far (fun b e => Or.inr (Or.inl e))
    have N0 := Lib.hid (And.intro (M0.out.1.far hf6) (M0.out.2.far hf6))
    have e1' : ((w5.setCell ⟨gN, 0, none⟩ (.slice ar1 ndr.1.length dr1)).setCell ⟨gN, 1, none⟩ (.slice ar2 ndr.2.length dr2)).drew.cell? ⟨B7, 0, none⟩ = some (.slice a01 nd0.1.length d01) := (o6d.cell (by omega) (by omega)).trans e1
    have e2' : ((w5.setCell ⟨gN, 0, none⟩ (.slice ar1 ndr.1.length dr1)).setCell ⟨gN, 1, none⟩ (.slice ar2 ndr.2.length dr2)).drew.cell? ⟨B7, 1, none⟩ = some (.slice a02 nd0.2.length d02) := (o6d.cell (by omega) (by omega)).trans e2
    have hz6 := o6d.size
    clear a6 o6 hbd o6d hf6 HA5 HX5 HB5 HC5 HO5 M0 Mr e1 e2 cr1 cr2 fr1 fr2 c01 c02 f01 f02 dB5
    generalize ((w5.setCell ⟨gN, 0, none⟩ (.slice ar1 ndr.1.length dr1)).setCell ⟨gN, 1, none⟩ (.slice ar2 ndr.2.length dr2)).drew = w6 at HA6 HX6 HB6 HC6 HO6 N0 e1' e2' hz6 ⊢
    have hvr : (vs.set 0 ((.slice ar1 ndr.1.length dr1), (.slice ar2 ndr.2.length dr2)))[r]? = some ((.slice ar1 ndr.1.length dr1), (.slice ar2 ndr.2.length dr2)) := by
      by_cases hr0 : r = 0
      · subst hr0
        rw [List.getElem?_set_self (get_lt hp0)]
      · rw [List.getElem?_set_ne (by omega)]
        exact hpr
    obtain ⟨cr1, cr2, fr1, fr2⟩ := HA6.out.cells hvr
    dsimp only at cr1 cr2
    have dB6 := HB6.out.1
    have fB6 := HB6.out.2
    clear hvr
    go_upto_region 14 with fail
    obtain ⟨a7, o7⟩ := HA6.out.set (j := r) ((.slice a01 nd0.1.length d01), (.slice a02 nd0.2.length d02)) nd0 N0.out
    dsimp only at a7 o7
    have hlF : ((F.set 0 ndr).set r nd0).length = F.length := by rw [List.length_set, List.length_set]
    have hn7 := a7.nodesZ
    have hx7 := HX6.out.only o7 (by omega)
    have hc7 := HC6.out.only o7 (fun g e => by omega) (by omega)
    have ho7 : Only w ((w6.setCell ⟨gN, r * 2, none⟩ (.slice a01 nd0.1.length d01)).setCell ⟨gN, r * 2 + 1, none⟩ (.slice a02 nd0.2.length d02)) (fun b => b = q) := HO6.out.trans o7 (fun i hi e => by omega)
    have d7 : ((w6.setCell ⟨gN, r * 2, none⟩ (.slice a01 nd0.1.length d01)).setCell ⟨gN, r * 2 + 1, none⟩ (.slice a02 nd0.2.length d02)).cell? ⟨B5, 0, none⟩ = some (.slice (some ⟨gN, 0, none⟩) F.length cN) := (o7.cell (by omega) (by omega)).trans dB6
    have hE := any_end (N := N + 12 * k + 12) hn7 (by rw [hlF]; omega) hc7 (by omega) ho7 hW0 hql
    rw [hlF] at hE
    have HE := Lib.hid hE
    obtain ⟨x7, xf7⟩ := hx7
    have hcr := World.cell?_setCell_same ((w6.setCell ⟨gN, r * 2, none⟩ (.slice a01 nd0.1.length d01)).setCell ⟨gN, r * 2 + 1, none⟩ (.slice a02 nd0.2.length d02)) ⟨w.heap.size, 0, none⟩ (.slice (some ⟨gN, 0, none⟩) F.length cN) x7
    clear a7 o7 hn7 hc7 ho7 hE HA6 HX6 HB6 HC6 HO6 N0 e1' e2' cr1 cr2 fr1 fr2 dB6 fB6
    generalize ((w6.setCell ⟨gN, r * 2, none⟩ (.slice a01 nd0.1.length d01)).setCell ⟨gN, r * 2 + 1, none⟩ (.slice a02 nd0.2.length d02)) = w7 at d7 x7 xf7 HE hcr ⊢
    go_wp2_with fail
    exact bodyPost_ret (v := .agg #[.slice (some ⟨gN, 0, none⟩) F.length cN]) (by simp [results, Try.results30, go_sem, hcr]) rfl HE.out
  · -- as it was drawn
    have n0 : ((x : Int) == 0) = false := by rw [beq_eq_false_iff_ne]; omega
    have n1 : ((x : Int) == 1) = false := by rw [beq_eq_false_iff_ne]; omega
    have n2 : ((x : Int) == 2) = false := by rw [beq_eq_false_iff_ne]; omega
    have n3 : ((x : Int) == 3) = false := by rw [beq_eq_false_iff_ne]; omega
    have HE := Lib.hid (any_end (N := N + 12 * k + 12) HA4.out.nodesZ (by omega) HC4.out (by omega) HO4.out hW0 hql)
    have hcr := World.cell?_setCell_same w4 ⟨w.heap.size, 0, none⟩ (.slice (some ⟨gN, 0, none⟩) F.length cN) hX4
    clear HA4 HX4 HB4 HC4 HO4
    go_wp2_with fail
    exact bodyPost_ret (v := .agg #[.slice (some ⟨gN, 0, none⟩) F.length cN]) (by simp [results, Try.results30, go_sem, hcr]) rfl HE.out
end

section
open Go.RowKit
set_option linter.unusedVariables false
set_option linter.unusedSimpArgs false
set_option maxHeartbeats 400000 in
theorem vZero_calls (w : World) : Calls Try.prog 47 #[] w fun e w' => ∃ a c, e = .returned (.agg #[.slice a 1 c]) ∧ NodesZ w' w.heap.size w'.heap.size (.slice a 1 c) [([], [])] ∧ Below w.heap.size w w' := by
  have z1 : (w.alloc (.cells #[.slice (some ⟨w.heap.size + 1, 0, none⟩) 1 1] 28)).heap.size = w.heap.size + 1 := by simp
  have b1 : Below w.heap.size w (w.alloc (.cells #[.slice (some ⟨w.heap.size + 1, 0, none⟩) 1 1] 28)) := (Below.refl _ _).alloc (Nat.le_refl _) _
  have b2 : Below (w.heap.size + 1) (w.alloc (.cells #[.slice (some ⟨w.heap.size + 1, 0, none⟩) 1 1] 28)) ((w.alloc (.cells #[.slice (some ⟨w.heap.size + 1, 0, none⟩) 1 1] 28)).alloc (.cells #[.slice none 0 0, .slice none 0 0] 57)) := (Below.refl _ _).alloc (by omega) _
  have hcr : ((w.alloc (.cells #[.slice (some ⟨w.heap.size + 1, 0, none⟩) 1 1] 28)).alloc (.cells #[.slice none 0 0, .slice none 0 0] 57)).cell? ⟨w.heap.size, 0, none⟩ = some (.slice (some ⟨w.heap.size + 1, 0, none⟩) 1 1) := (b2.cell (p := ⟨w.heap.size, 0, none⟩) (by show w.heap.size < w.heap.size + 1; omega)).trans (by go_simp)
  have k1 : ((w.alloc (.cells #[.slice (some ⟨w.heap.size + 1, 0, none⟩) 1 1] 28)).alloc (.cells #[.slice none 0 0, .slice none 0 0] 57)).cell? ⟨w.heap.size + 1, 0, none⟩ = some (.slice none 0 0) := by rw [← z1]; go_simp
  have k2 : ((w.alloc (.cells #[.slice (some ⟨w.heap.size + 1, 0, none⟩) 1 1] 28)).alloc (.cells #[.slice none 0 0, .slice none 0 0] 57)).cell? ⟨w.heap.size + 1, 1, none⟩ = some (.slice none 0 0) := by rw [← z1]; go_simp
  have hz : ((w.alloc (.cells #[.slice (some ⟨w.heap.size + 1, 0, none⟩) 1 1] 28)).alloc (.cells #[.slice none 0 0, .slice none 0 0] 57)).heap.size = w.heap.size + 2 := by simp
  have HB : Hid (Below w.heap.size w ((w.alloc (.cells #[.slice (some ⟨w.heap.size + 1, 0, none⟩) 1 1] 28)).alloc (.cells #[.slice none 0 0, .slice none 0 0] 57))) := Lib.hid (b1.trans (b2.mono (by omega)))
  have HN : Hid (NodesZ ((w.alloc (.cells #[.slice (some ⟨w.heap.size + 1, 0, none⟩) 1 1] 28)).alloc (.cells #[.slice none 0 0, .slice none 0 0] 57)) w.heap.size ((w.alloc (.cells #[.slice (some ⟨w.heap.size + 1, 0, none⟩) 1 1] 28)).alloc (.cells #[.slice none 0 0, .slice none 0 0] 57)).heap.size (.slice (some ⟨w.heap.size + 1, 0, none⟩) 1 1) [([], [])]) := Lib.hid (by
    refine ⟨_, 1, rfl, ⟨Nat.le_refl _, by simp⟩, fun j nd hj => ?_⟩
    have h0 := get_lt hj
    simp at h0
    subst h0
    simp at hj
    subst hj
    exact ⟨w.heap.size + 1, 0, .slice none 0 0, .slice none 0 0, rfl, by omega, by rw [hz]; omega, k1, k2, ⟨none, 0, rfl, by simp, fun j x hx => by simp at hx⟩, ⟨none, 0, rfl, by simp, fun j x hx => by simp at hx⟩⟩)
  clear b1 b2 k1 k2 hz
  go_enter Try.func47, Try.ntmps47
  go_wp2_with fail
  exact bodyPost_ret (v := .agg #[.slice (some ⟨w.heap.size + 1, 0, none⟩) 1 1]) (by simp [results, Try.results47, go_sem, hcr]) rfl ⟨_, _, rfl, HN.out, HB.out⟩
end

section
open Go.RowKit
set_option linter.unusedVariables false
set_option linter.unusedSimpArgs false
/-- a growing list of games, each in blocks of its own -/
structure GzL (s : Nat) (w : World) (g c : Nat) (us : List Value) (Gs : List (List Nz)) : Prop where
  row : w.ownsRow s 28 1 (.slice (some ⟨g, 0, none⟩) Gs.length c) Gs.length us
  len : us.length = Gs.length
  each : ∀ (j : Nat) (u : Value) (f : List Nz), us[j]? = some u → Gs[j]? = some f → ∃ lo hi, s ≤ lo ∧ hi ≤ w.heap.size ∧ (g < lo ∨ hi ≤ g) ∧ NodesZ w lo hi u f
theorem GzL.lt {s : Nat} {w : World} {g c : Nat} {us : List Value} {Gs : List (List Nz)} (h : GzL s w g c us Gs) : s ≤ g ∧ g < w.heap.size := World.ownsRow.lt h.row g rfl
theorem GzL.only {s : Nat} {w w' : World} {g c : Nat} {us : List Value} {Gs : List (List Nz)} {F : Nat → Prop} (h : GzL s w g c us Gs) (ho : Only w w' F) (hF : ∀ b, s ≤ b → b < w.heap.size → ¬ F b) : GzL s w' g c us Gs :=
  ⟨own_only h.row ho (fun x hx => by have := World.ownsRow.lt h.row x hx; exact hF x this.1 this.2), h.len, fun j u f h1 h2 => by
    obtain ⟨lo, hi, e1, e2, e3, e4⟩ := h.each j u f h1 h2
    exact ⟨lo, hi, e1, Nat.le_trans e2 ho.size, e3, e4.keep (fun b o g1 g2 => ho.cell (by omega) (hF b (by omega) (by omega)))⟩⟩
theorem GzL.new (s : Nat) (w : World) (hs : s ≤ w.heap.size) (T : TypeId) (hT : T = 28) : GzL s (w.alloc (.cells #[] T)) w.heap.size 0 [] [] := by
  subst hT
  exact ⟨World.ownsRow_lit (base := s) (e := 28) (size := 1) w #[] 0 hs (by unfold maxLen; omega) rfl, rfl, fun j u f h _ => by simp at h⟩
theorem GzL.formsZ {s : Nat} {w : World} {g c : Nat} {us : List Value} {Gs : List (List Nz)} (h : GzL s w g c us Gs) : FormsZ w s w.heap.size (.slice (some ⟨g, 0, none⟩) Gs.length c) Gs := by
  have hlt := h.lt
  refine ⟨_, c, rfl, World.ownsRow.caps h.row, fun j f hj => ?_⟩
  obtain ⟨u, hu⟩ := lt_get (l := us) (i := j) (by rw [h.len]; exact get_lt hj)
  obtain ⟨lo, hi, e1, e2, e3, e4⟩ := h.each j u f hu hj
  exact ⟨g, 0, u, rfl, hlt.1, hlt.2, by rw [Nat.zero_add, World.ownsRow.cellAt h.row j (by have := get_lt hj; omega), hu], e4.wide e1 e2⟩
theorem GzL.push {s : Nat} {w4 w5 : World} {g c g' c' lo hi : Nat} {us : List Value} {Gs : List (List Nz)} {u : Value} {f : List Nz} {T : TypeId} (h : GzL s w4 g c us Gs)
    (hu : NodesZ w4 lo hi u f) (h1 : s ≤ lo) (h2 : hi ≤ w4.heap.size) (h3 : g < lo ∨ hi ≤ g) (hown : w5.ownsRow s 28 1 (.slice (some ⟨g', 0, none⟩) (Gs.length + 1) c') (Gs.length + 1) (us ++ [u]))
    (hg : (w4.alloc (.cells #[u] T)).grownBy w5 (Value.slice (some ⟨g, 0, none⟩) Gs.length c).ownBlock) (hat : (Value.slice (some ⟨g', 0, none⟩) (Gs.length + 1) c').ownBlock = (Value.slice (some ⟨g, 0, none⟩) Gs.length c).ownBlock ∨ (Value.slice (some ⟨g', 0, none⟩) (Gs.length + 1) c').ownBlock = some (w4.alloc (.cells #[u] T)).heap.size) :
    GzL s w5 g' c' (us ++ [u]) (Gs ++ [f]) ∧ Only w4 w5 (fun b => b = g) := by
  have hal : Below w4.heap.size w4 (w4.alloc (.cells #[u] T)) := (Below.refl _ _).alloc (Nat.le_refl _) _
  have ho : Only w4 w5 (fun b => b = g) := (Only.of_below (F := fun b => b = g) hal).trans (Only.of_grown (F := fun b => b = g) hg (fun x e => by injection e with e; exact e.symm)) (fun _ _ h => h)
  have hz : (w4.alloc (.cells #[u] T)).heap.size = w4.heap.size + 1 := by simp
  have hs := ho.size
  have hgg : g' = g ∨ g' = w4.heap.size + 1 := by
    rcases hat with e | e
    · left; injection e
    · right; rw [hz] at e; injection e
  have hmove : ∀ (u : Value) (f : List Nz) (lo hi : Nat), hi ≤ w4.heap.size → (g < lo ∨ hi ≤ g) → NodesZ w4 lo hi u f → (g' < lo ∨ hi ≤ g') ∧ NodesZ w5 lo hi u f := fun u f lo hi e1 e2 e3 =>
    ⟨by rcases hgg with e | e <;> omega, e3.keep (fun b o g1 g2 => ho.cell (by omega) (by omega))⟩
  refine ⟨⟨by rw [List.length_append]; exact hown, by simp [h.len], fun j u' f' g1 g2 => ?_⟩, ho⟩
  rcases Nat.lt_or_ge j us.length with hlt | hge
  · rw [List.getElem?_append_left hlt] at g1
    rw [List.getElem?_append_left (by rw [← h.len]; exact hlt)] at g2
    obtain ⟨lo', hi', e1, e2, e3, e4⟩ := h.each j u' f' g1 g2
    obtain ⟨k1, k2⟩ := hmove u' f' lo' hi' e2 e3 e4
    exact ⟨lo', hi', e1, by omega, k1, k2⟩
  · have hj := get_lt g1
    simp at hj
    have : j = us.length := by omega
    subst this
    rw [List.getElem?_append_right (Nat.le_refl _)] at g1
    rw [h.len, List.getElem?_append_right (Nat.le_refl _)] at g2
    simp at g1 g2
    subst g1 g2
    obtain ⟨k1, k2⟩ := hmove u f lo hi h2 h3 hu
    exact ⟨lo, hi, h1, by omega, k1, k2⟩
/-- what a draw of a list hands back -/
def DrawList (w : World) (e : Ending) (w' : World) : Prop := ∃ (g c : Nat) (Gs : List (List Nz)), e = .returned (.slice (some ⟨g, 0, none⟩) Gs.length c) ∧ Gs.length ≤ 30 ∧ FormsZ w' w.heap.size w'.heap.size (.slice (some ⟨g, 0, none⟩) Gs.length c) Gs ∧ Below w.heap.size w w'
set_option maxRecDepth 100000 in
set_option maxHeartbeats 8000000 in
theorem drawGreatest_calls (ao : Option Addr) (n cc : Nat) (w : World) (hc : CodeIn w (.slice ao n cc) n) (hn : n ≤ 1000000) :
    Calls Try.prog 8 #[.slice ao n cc] w (DrawList w) := by
  obtain ⟨i0, hi0, hz0, hz1, hz2⟩ := info_parts infoFormA
  have HPK := Lib.hid fun (W : World) (M m : Nat) (hM : M ≤ 90000) (h1 : 1 ≤ m) (h2 : m ≤ 100000) (hW : Cur w W w.heap.size (.slice ao n cc) M) => pick_calls w W w.heap.size n M m (.slice ao n cc) hc hn hW hM h1 h2
  have HON := Lib.hid fun (W : World) (M m : Nat) (hM : M ≤ 90000) (h1 : 1 ≤ m) (h2 : m ≤ 100000) (hW : Cur w W w.heap.size (.slice ao n cc) M) => one_calls w W w.heap.size n M m (.slice ao n cc) hc hn hW hM h1 h2
  have HFO := Lib.hid fun (W : World) (M : Nat) (hM : M ≤ 1000) (hW : Cur w W w.heap.size (.slice ao n cc) M) => form_draw w W w.heap.size n M (.slice ao n cc) hc hn hW 1 (by omega) (by omega)
  have HAN := Lib.hid fun (W : World) (M : Nat) (hM : M ≤ 1000) (hW : Cur w W w.heap.size (.slice ao n cc) M) => any_draw w W w.heap.size n M (.slice ao n cc) hc hn hW 2 (by omega) (by omega)
  have hbq : Below w.heap.size w (w.alloc (.cells #[.slice ao n cc, .int .i64 0, .int .u64 0] 52)) := (Below.refl _ _).alloc (Nat.le_refl _) _
  have hzq : (w.alloc (.cells #[.slice ao n cc, .int .i64 0, .int .u64 0] 52)).heap.size = w.heap.size + 1 := by simp
  have hcq := cur_new w (.slice ao n cc)
  have hG := GzL.new (w.heap.size + 1) (w.alloc (.cells #[.slice ao n cc, .int .i64 0, .int .u64 0] 52)) (by omega) 28 rfl
  rw [hzq] at hG
  have hb2 : Below (w.heap.size + 1) (w.alloc (.cells #[.slice ao n cc, .int .i64 0, .int .u64 0] 52)) ((w.alloc (.cells #[.slice ao n cc, .int .i64 0, .int .u64 0] 52)).alloc (.cells #[] 28)) := (Below.refl _ _).alloc (by omega) _
  have HG0 := Lib.hid hG
  have HC0 := Lib.hid (hcq.below (by rw [hzq]; exact hb2))
  have HB0 := Lib.hid (hbq.trans (hb2.mono (by omega)))
  clear hc hn hbq hcq hG hb2
  go_enter Try.func8, Try.ntmps8
  go_wp2_with fail
  refine (HPK.out _ 0 6 (by omega) (by omega) (by omega) HC0.out).mono ?_
  rintro e w1 ⟨⟨r, hr, rfl⟩, hc1, hg1⟩
  have ho1 := only_cur hg1
  have HG1 := Lib.hid (HG0.out.only ho1 (fun b h1 h2 e => by omega))
  have HC1 := Lib.hid hc1
  have HB1 := Lib.hid (HB0.out.trans (ho1.below (base := w.heap.size) (by simp; omega) (fun g e => by omega)))
  clear hc1 hg1 ho1 HG0 HC0 HB0
  go_wp2
  go_loopw [4, 5] (fun l i wr => ∃ (m g c : Nat) (us : List Value) (Gs : List (List Nz)), i = .int .i64 m ∧ l = .slice (some ⟨g, 0, none⟩) Gs.length c ∧ Gs.length + m = r ∧ Hid (GzL (w.heap.size + 1) wr g c us Gs) ∧ Hid (Cur w wr w.heap.size (.slice ao n cc) (2 + 16 * Gs.length)) ∧ Hid (Below w.heap.size w wr)) (fun _ i _ => (intOf i).toNat)
  case atStart => exact ⟨r, w.heap.size + 1, 0, [], [], rfl, rfl, by simp, HG1, HC1, HB1⟩
  case round =>
    obtain ⟨m, g, c, us, Gs, rfl, rfl, hm, hG, hC, hB⟩ := hrel
    clear HG1 HC1 HB1
    have hsz := hB.out.size
    have hgl := hG.out.lt
    by_cases hlt : 0 < m
    · have b1 : (0 : Int) < m := by omega
      have w1' : IntKind.i64.wrap ((m : Int) - 1) = ((m - 1 : Nat) : Int) := by rw [IntWalk.i64_in _ (by omega)]; omega
      go_wp2_with fail
      refine (HFO.out wr _ (by omega) hC.out).mono ?_
      rintro e w4 ⟨u, f, rfl, hd, hft, hfl, hC4, ho4⟩
      obtain ⟨au, cu, hsh⟩ := hd.shape
      subst hsh
      have hnz := hd.nodesZ
      obtain ⟨F, hF⟩ : ∃ F, f.map upN = F := ⟨_, rfl⟩
      have hfF : f.length = F.length := by rw [← hF, List.length_map]
      rw [hF] at hnz
      rw [hfF] at hnz ⊢
      have hs4 := ho4.size
      have HN4 := Lib.hid hnz
      have HG4 := Lib.hid (hG.out.only ho4 (fun b h1 h2 e => by omega))
      have HC4 := Lib.hid hC4
      have HB4 := Lib.hid (hB.out.trans (ho4.below (base := w.heap.size) hsz (fun g e => by omega)))
      have HR4 := Lib.hid (World.ownsRow.alloc HG4.out.row (.cells #[.slice au F.length cu] 28))
      clear hd hft hfl hC4 ho4 hnz hG hC hB hF
      go_wp2_with (at_builtin; refine wpList_append_own_at _ rfl _ _ 24 rfl (w.heap.size + 1) 28 i0 (.agg #[.slice none 0 0]) 1 24 Try.underlying24 hi0 hz0 hz1 hz2 rfl (by decide) _ _ _ rfl HR4.out ⟨w4.heap.size, 0, none⟩ 1 1 [.slice au F.length cu] rfl rfl (cell_one_new _ _ _) (by simp [Value.oneCell']) (by unfold maxLen; omega) (by omega) (by simp; omega) ?_; intro v7 w7 hown7 hgrow7 hnil7 hat7)
      obtain ⟨g7, c7, rfl, _, _⟩ := hown7.form (by omega)
      obtain ⟨p1, p2⟩ := HG4.out.push HN4.out (by omega) (Nat.le_refl _) (by omega) hown7 hgrow7 hat7
      have HG7 := Lib.hid p1
      have HC7 := Lib.hid ((HC4.out.only p2 (fun x e => by omega) (by omega)).mono (show _ ≤ 2 + 16 * (Gs.length + 1) by omega))
      have HB7 := Lib.hid (HB4.out.trans (p2.below (base := w.heap.size) (by omega) (fun g e => by omega)))
      clear hown7 hgrow7 hnil7 hat7 p1 p2 HG4 HN4 HC4 HB4 HR4
      go_wp2
      go_roundw
      case rel => exact ⟨m - 1, g7, c7, us ++ [.slice au F.length cu], Gs ++ [F], by go_num, by simp, by simp; omega, HG7, by simpa using HC7, HB7⟩
      case measure => simp [intOf]; omega
    · obtain rfl : m = 0 := by omega
      -- TAIL
      go_wp2_with fail
      refine (HON.out wr _ 20 (by omega) (by omega) (by omega) hC.out).mono ?_
      rintro e w2 ⟨⟨yes, rfl⟩, hc2, hg2⟩
      have ho2 := only_cur hg2
      have hs2 := ho2.size
      have HG2 := Lib.hid (hG.out.only ho2 (fun b h1 h2 e => by omega))
      have HC2 := Lib.hid (hc2.mono (show _ ≤ 150 by omega))
      have HB2 := Lib.hid (hB.out.trans (ho2.below (base := w.heap.size) hsz (fun g e => by omega)))
      clear hc2 hg2 ho2 hG hC hB
      cases yes with
      | false =>
        have hlt : Gs.length ≤ 6 := by omega
        have HGt := HG2
        have HCt := Lib.hid (HC2.out.mono (show 150 ≤ 200 by omega))
        have HBt := HB2
        clear HG2 HC2 HB2
        go_wp2_with fail
        refine (HON.out _ 200 20 (by omega) (by omega) (by omega) HCt.out).mono ?_
        rintro e w8 ⟨⟨yes8, rfl⟩, hc8, hg8⟩
        have ho8 := only_cur hg8
        have hs8 := ho8.size
        have hst := HBt.out.size
        have HG8 := Lib.hid (HGt.out.only ho8 (fun b h1 h2 e => by omega))
        have HC8 := Lib.hid hc8
        have HB8 := Lib.hid (HBt.out.trans (ho8.below (base := w.heap.size) (by omega) (fun g e => by omega)))
        clear hc8 hg8 ho8 HGt HCt HBt
        cases yes8 with
        | false =>
          have HF := Lib.hid (HG8.out.formsZ.wide (lo' := w.heap.size) (by omega) (Nat.le_refl _))
          clear HG8 HC8 HPK HON HFO HAN
          go_wp2
          go_ret
          exact ⟨g, c, Gs, rfl, by omega, HF.out, HB8.out⟩
        | true =>
          have hG9 := GzL.new (w.heap.size + 1) w8 (by omega) 28 rfl
          have hb9 : Below w8.heap.size w8 (w8.alloc (.cells #[] 28)) := (Below.refl _ _).alloc (Nat.le_refl _) _
          have HG9 := Lib.hid hG9
          have HC9 := Lib.hid (HC8.out.below hb9)
          have HB9 := Lib.hid (HB8.out.trans (hb9.mono (by omega)))
          clear hG9 hb9 HG8 HC8 HB8
          go_wp2_with fail
          refine (HPK.out _ _ 2 (by omega) (by omega) (by omega) HC9.out).mono ?_
          rintro e w10 ⟨⟨r2, hr2, rfl⟩, hc10, hg10⟩
          have ho10 := only_cur hg10
          have HG10 := Lib.hid (HG9.out.only ho10 (fun b h1 h2 e => by omega))
          have HB10 := Lib.hid (HB9.out.trans (ho10.below (base := w.heap.size) (by simp; omega) (fun g e => by omega)))
          have w24 : IntKind.i64.wrap (24 + (r2 : Int)) = ((24 + r2 : Nat) : Int) := by rw [IntWalk.i64_in _ (by omega)]; omega
          clear hc10 hg10 ho10 HG9 HC9 HB9 HPK HON HFO HAN
          go_wp2
          go_loopw [4, 6] (fun l i wr => ∃ (m g c : Nat) (us : List Value) (Gs : List (List Nz)), i = .int .i64 m ∧ l = .slice (some ⟨g, 0, none⟩) Gs.length c ∧ Gs.length + m = 24 + r2 ∧ Hid (GzL (w.heap.size + 1) wr g c us Gs) ∧ Hid (Below w.heap.size w wr)) (fun _ i _ => (intOf i).toNat)
          case atStart => exact ⟨24 + r2, w8.heap.size, 0, [], [], by go_num, rfl, by simp, HG10, HB10⟩
          case round =>
            obtain ⟨m, g, c, us, Gs, rfl, rfl, hm, hG, hB⟩ := hrel
            clear HG10 HB10
            have hsz := hB.out.size
            have hgl := hG.out.lt
            by_cases hlt : 0 < m
            · have b1 : (0 : Int) < m := by omega
              have w1' : IntKind.i64.wrap ((m : Int) - 1) = ((m - 1 : Nat) : Int) := by rw [IntWalk.i64_in _ (by omega)]; omega
              have hbn : Below wr.heap.size wr (wr.alloc (.cells #[.slice none 0 0, .slice none 0 0] 57)) := (Below.refl _ _).alloc (Nat.le_refl _) _
              have hzn : (wr.alloc (.cells #[.slice none 0 0, .slice none 0 0] 57)).heap.size = wr.heap.size + 1 := by simp
              have HN4 : Hid (NodesZ (wr.alloc (.cells #[.slice none 0 0, .slice none 0 0] 57)) wr.heap.size (wr.heap.size + 1) (.slice (some ⟨wr.heap.size, 0, none⟩) 1 1) [([], [])]) := Lib.hid (by
                refine ⟨_, 1, rfl, ⟨Nat.le_refl _, by simp⟩, fun j nd hj => ?_⟩
                have h0 := get_lt hj
                simp at h0
                subst h0
                simp at hj
                subst hj
                exact ⟨wr.heap.size, 0, .slice none 0 0, .slice none 0 0, rfl, Nat.le_refl _, Nat.lt_succ_self _, by go_simp, by go_simp, ⟨none, 0, rfl, by simp, fun j x hx => by simp at hx⟩, ⟨none, 0, rfl, by simp, fun j x hx => by simp at hx⟩⟩)
              have HG4 := Lib.hid (hG.out.only (Only.of_below (F := fun _ => False) hbn) (fun _ _ _ => id))
              have HB4 := Lib.hid (hB.out.trans (hbn.mono hsz))
              have HR4 := Lib.hid (World.ownsRow.alloc HG4.out.row (.cells #[.slice (some ⟨wr.heap.size, 0, none⟩) 1 1] 28))
              have HCN : Hid (∀ (j : Nat) (v : Value), [Value.slice (some ⟨wr.heap.size, 0, none⟩) 1 1][j]? = some v → ((wr.alloc (.cells #[.slice none 0 0, .slice none 0 0] 57)).alloc (.cells #[.slice (some ⟨wr.heap.size, 0, none⟩) 1 1] 28)).cell? ((⟨wr.heap.size + 1, 0, none⟩ : Addr).add j) = some v) := Lib.hid (by rw [← hzn]; exact cell_one_new _ _ _)
              clear hbn hG hB
              go_wp2_with (at_builtin; refine wpList_append_own_at _ rfl _ _ 24 rfl (w.heap.size + 1) 28 i0 (.agg #[.slice none 0 0]) 1 24 Try.underlying24 hi0 hz0 hz1 hz2 rfl (by decide) _ _ _ rfl HR4.out ⟨wr.heap.size + 1, 0, none⟩ 1 1 [.slice (some ⟨wr.heap.size, 0, none⟩) 1 1] rfl rfl HCN.out (by simp [Value.oneCell']) (by unfold maxLen; omega) (by omega) (by simp; omega) ?_; intro v7 w7 hown7 hgrow7 hnil7 hat7)
              obtain ⟨g7, c7, rfl, _, _⟩ := hown7.form (by omega)
              obtain ⟨p1, p2⟩ := HG4.out.push HN4.out (by omega) (by omega) (by omega) hown7 hgrow7 hat7
              have HG7 := Lib.hid p1
              have HB7 := Lib.hid (HB4.out.trans (p2.below (base := w.heap.size) (by omega) (fun g e => by omega)))
              clear hown7 hgrow7 hnil7 hat7 p1 p2 HG4 HN4 HB4 HR4
              go_wp2
              go_roundw
              case rel => exact ⟨m - 1, g7, c7, us ++ [.slice (some ⟨wr.heap.size, 0, none⟩) 1 1], Gs ++ [[([], [])]], by go_num, by simp, by simp; omega, HG7, HB7⟩
              case measure => simp [intOf]; omega
            · obtain rfl : m = 0 := by omega
              have HF := Lib.hid (hG.out.formsZ.wide (lo' := w.heap.size) (by omega) (Nat.le_refl _))
              clear hG
              go_wp2
              go_ret
              exact ⟨g, c, Gs, rfl, by omega, HF.out, hB.out⟩
      | true =>
        go_wp2_with fail
        refine (HAN.out _ _ (by omega) HC2.out).mono ?_
        rintro e w4 ⟨au, cu, F, rfl, hnz, hfl, hC4, ho4⟩
        have hs4 := ho4.size
        have HN4 := Lib.hid hnz
        have hgl2 := HG2.out.lt
        have HG4 := Lib.hid (HG2.out.only ho4 (fun b h1 h2 e => by omega))
        have HC4 := Lib.hid (hC4.mono (show _ ≤ 200 by omega))
        have HB4 := Lib.hid (HB2.out.trans (ho4.below (base := w.heap.size) (by omega) (fun g e => by omega)))
        have HR4 := Lib.hid (World.ownsRow.alloc HG4.out.row (.cells #[.slice au F.length cu] 28))
        clear hnz hC4 ho4 HG2 HC2 HB2
        go_wp2_with (at_builtin; refine wpList_append_own_at _ rfl _ _ 24 rfl (w.heap.size + 1) 28 i0 (.agg #[.slice none 0 0]) 1 24 Try.underlying24 hi0 hz0 hz1 hz2 rfl (by decide) _ _ _ rfl HR4.out ⟨w4.heap.size, 0, none⟩ 1 1 [.slice au F.length cu] rfl rfl (cell_one_new _ _ _) (by simp [Value.oneCell']) (by unfold maxLen; omega) (by omega) (by simp; omega) ?_; intro v7 w7 hown7 hgrow7 hnil7 hat7)
        obtain ⟨g7, c7, rfl, _, _⟩ := hown7.form (by omega)
        obtain ⟨p1, p2⟩ := HG4.out.push HN4.out (by omega) (Nat.le_refl _) (by omega) hown7 hgrow7 hat7
        have HGt := Lib.hid p1
        have HCt := Lib.hid (HC4.out.only p2 (fun x e => by omega) (by omega))
        have HBt := Lib.hid (HB4.out.trans (p2.below (base := w.heap.size) (by omega) (fun g e => by omega)))
        clear hown7 hgrow7 hnil7 hat7 p1 p2 HG4 HN4 HC4 HB4 HR4
        obtain ⟨Gt, hGt⟩ : ∃ Gt, Gs ++ [F] = Gt := ⟨_, rfl⟩
        have hlen : Gs.length + 1 = Gt.length := by rw [← hGt]; simp
        rw [hGt] at HGt
        rw [hlen]
        clear hGt
        go_wp2_with fail
        refine (HON.out _ 200 20 (by omega) (by omega) (by omega) HCt.out).mono ?_
        rintro e w8 ⟨⟨yes8, rfl⟩, hc8, hg8⟩
        have ho8 := only_cur hg8
        have hs8 := ho8.size
        have hst := HBt.out.size
        have HG8 := Lib.hid (HGt.out.only ho8 (fun b h1 h2 e => by omega))
        have HC8 := Lib.hid hc8
        have HB8 := Lib.hid (HBt.out.trans (ho8.below (base := w.heap.size) (by omega) (fun g e => by omega)))
        clear hc8 hg8 ho8 HGt HCt HBt
        cases yes8 with
        | false =>
          have HF := Lib.hid (HG8.out.formsZ.wide (lo' := w.heap.size) (by omega) (Nat.le_refl _))
          clear HG8 HC8 HPK HON HFO HAN
          go_wp2
          go_ret
          exact ⟨g7, c7, Gt, rfl, by omega, HF.out, HB8.out⟩
        | true =>
          have hG9 := GzL.new (w.heap.size + 1) w8 (by omega) 28 rfl
          have hb9 : Below w8.heap.size w8 (w8.alloc (.cells #[] 28)) := (Below.refl _ _).alloc (Nat.le_refl _) _
          have HG9 := Lib.hid hG9
          have HC9 := Lib.hid (HC8.out.below hb9)
          have HB9 := Lib.hid (HB8.out.trans (hb9.mono (by omega)))
          clear hG9 hb9 HG8 HC8 HB8
          go_wp2_with fail
          refine (HPK.out _ _ 2 (by omega) (by omega) (by omega) HC9.out).mono ?_
          rintro e w10 ⟨⟨r2, hr2, rfl⟩, hc10, hg10⟩
          have ho10 := only_cur hg10
          have HG10 := Lib.hid (HG9.out.only ho10 (fun b h1 h2 e => by omega))
          have HB10 := Lib.hid (HB9.out.trans (ho10.below (base := w.heap.size) (by simp; omega) (fun g e => by omega)))
          have w24 : IntKind.i64.wrap (24 + (r2 : Int)) = ((24 + r2 : Nat) : Int) := by rw [IntWalk.i64_in _ (by omega)]; omega
          clear hc10 hg10 ho10 HG9 HC9 HB9 HPK HON HFO HAN
          go_wp2
          go_loopw [4, 6] (fun l i wr => ∃ (m g c : Nat) (us : List Value) (Gs : List (List Nz)), i = .int .i64 m ∧ l = .slice (some ⟨g, 0, none⟩) Gs.length c ∧ Gs.length + m = 24 + r2 ∧ Hid (GzL (w.heap.size + 1) wr g c us Gs) ∧ Hid (Below w.heap.size w wr)) (fun _ i _ => (intOf i).toNat)
          case atStart => exact ⟨24 + r2, w8.heap.size, 0, [], [], by go_num, rfl, by simp, HG10, HB10⟩
          case round =>
            obtain ⟨m, g, c, us, Gs, rfl, rfl, hm, hG, hB⟩ := hrel
            clear HG10 HB10
            have hsz := hB.out.size
            have hgl := hG.out.lt
            by_cases hlt : 0 < m
            · have b1 : (0 : Int) < m := by omega
              have w1' : IntKind.i64.wrap ((m : Int) - 1) = ((m - 1 : Nat) : Int) := by rw [IntWalk.i64_in _ (by omega)]; omega
              have hbn : Below wr.heap.size wr (wr.alloc (.cells #[.slice none 0 0, .slice none 0 0] 57)) := (Below.refl _ _).alloc (Nat.le_refl _) _
              have hzn : (wr.alloc (.cells #[.slice none 0 0, .slice none 0 0] 57)).heap.size = wr.heap.size + 1 := by simp
              have HN4 : Hid (NodesZ (wr.alloc (.cells #[.slice none 0 0, .slice none 0 0] 57)) wr.heap.size (wr.heap.size + 1) (.slice (some ⟨wr.heap.size, 0, none⟩) 1 1) [([], [])]) := Lib.hid (by
                refine ⟨_, 1, rfl, ⟨Nat.le_refl _, by simp⟩, fun j nd hj => ?_⟩
                have h0 := get_lt hj
                simp at h0
                subst h0
                simp at hj
                subst hj
                exact ⟨wr.heap.size, 0, .slice none 0 0, .slice none 0 0, rfl, Nat.le_refl _, Nat.lt_succ_self _, by go_simp, by go_simp, ⟨none, 0, rfl, by simp, fun j x hx => by simp at hx⟩, ⟨none, 0, rfl, by simp, fun j x hx => by simp at hx⟩⟩)
              have HG4 := Lib.hid (hG.out.only (Only.of_below (F := fun _ => False) hbn) (fun _ _ _ => id))
              have HB4 := Lib.hid (hB.out.trans (hbn.mono hsz))
              have HR4 := Lib.hid (World.ownsRow.alloc HG4.out.row (.cells #[.slice (some ⟨wr.heap.size, 0, none⟩) 1 1] 28))
              have HCN : Hid (∀ (j : Nat) (v : Value), [Value.slice (some ⟨wr.heap.size, 0, none⟩) 1 1][j]? = some v → ((wr.alloc (.cells #[.slice none 0 0, .slice none 0 0] 57)).alloc (.cells #[.slice (some ⟨wr.heap.size, 0, none⟩) 1 1] 28)).cell? ((⟨wr.heap.size + 1, 0, none⟩ : Addr).add j) = some v) := Lib.hid (by rw [← hzn]; exact cell_one_new _ _ _)
              clear hbn hG hB
              go_wp2_with (at_builtin; refine wpList_append_own_at _ rfl _ _ 24 rfl (w.heap.size + 1) 28 i0 (.agg #[.slice none 0 0]) 1 24 Try.underlying24 hi0 hz0 hz1 hz2 rfl (by decide) _ _ _ rfl HR4.out ⟨wr.heap.size + 1, 0, none⟩ 1 1 [.slice (some ⟨wr.heap.size, 0, none⟩) 1 1] rfl rfl HCN.out (by simp [Value.oneCell']) (by unfold maxLen; omega) (by omega) (by simp; omega) ?_; intro v7 w7 hown7 hgrow7 hnil7 hat7)
              obtain ⟨g7, c7, rfl, _, _⟩ := hown7.form (by omega)
              obtain ⟨p1, p2⟩ := HG4.out.push HN4.out (by omega) (by omega) (by omega) hown7 hgrow7 hat7
              have HG7 := Lib.hid p1
              have HB7 := Lib.hid (HB4.out.trans (p2.below (base := w.heap.size) (by omega) (fun g e => by omega)))
              clear hown7 hgrow7 hnil7 hat7 p1 p2 HG4 HN4 HB4 HR4
              go_wp2
              go_roundw
              case rel => exact ⟨m - 1, g7, c7, us ++ [.slice (some ⟨wr.heap.size, 0, none⟩) 1 1], Gs ++ [[([], [])]], by go_num, by simp, by simp; omega, HG7, HB7⟩
              case measure => simp [intOf]; omega
            · obtain rfl : m = 0 := by omega
              have HF := Lib.hid (hG.out.formsZ.wide (lo' := w.heap.size) (by omega) (Nat.le_refl _))
              clear hG
              go_wp2
              go_ret
              exact ⟨g, c, Gs, rfl, by omega, HF.out, hB.out⟩
end

end Go.Proofs.Ytabfdaofikccmaa
