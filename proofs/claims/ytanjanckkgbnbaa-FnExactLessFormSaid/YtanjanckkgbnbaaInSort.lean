/- The comparing function of impl.inOrder. -/
import Derived.Test.YtanjanckkgbnbaaInDays
import Derived.Test.YtanjanckkgbnbaaFmCmp
import Derived.Test.YtanjanckkgbnbaaFmAsc
import Derived.Sort.OwnSortedInts
import Derived.Test.YtanjanckkgbnbaaShelf
import Derived.Test.YtanjanckkgbnbaaInMath
import Derived.Test.YtanjanckkgbnbaaFmMoved
namespace Go.Proofs.Ytanjanckkgbnbaa
section
open Go.RowKit Go.Sort
set_option linter.unusedVariables false
set_option linter.unusedSimpArgs false

/-- memory is laid, and some answers are drawn; nothing else -/
def Grew (w w' : World) : Prop := ∃ (q : Nat) (os : Array Obj), w' = grow (w.drewN q) os
theorem Grew.refl (w : World) : Grew w w := ⟨0, #[], by cases w; simp [grow, World.drewN]⟩
theorem Grew.alloc {w w' : World} (h : Grew w w') (o : Obj) : Grew w (w'.alloc o) := by
  obtain ⟨q, os, rfl⟩ := h
  refine ⟨q, os.push o, ?_⟩
  show ({ (grow (w.drewN q) os) with heap := (w.heap ++ os).push o } : World) = { (w.drewN q) with heap := w.heap ++ os.push o }
  rw [Array.append_push]
  rfl
theorem Grew.drew {w w' : World} (h : Grew w w') : Grew w w'.drew := by
  obtain ⟨q, os, rfl⟩ := h
  exact ⟨q + 1, os, rfl⟩

set_option maxRecDepth 100000 in
set_option maxHeartbeats 1000000 in
theorem cmpOptsG_calls (v1 v2 v1' v2' : Value) (a b : Nz) (w : World) (lo hi lo' hi' : Nat) (hh : hi ≤ w.heap.size) (hh' : hi' ≤ w.heap.size)
    (h1 : IntsZ w lo hi v1 a.1) (h2 : IntsZ w lo hi v2 a.2) (h1' : IntsZ w lo' hi' v1' b.1) (h2' : IntsZ w lo' hi' v2' b.2) :
    Calls Try.prog 78 #[.agg #[v1, v2], .agg #[v1', v2']] w fun e w' => e = .returned (.int .i64 (cmpNd a b)) ∧ Grew w w' := by
  have HB0 := Lib.hid fun o o' => show Below w.heap.size w ((w.alloc o).alloc o') from ((Below.refl _ _).alloc (Nat.le_refl _) _).alloc (by simp) _
  have HG0 := Lib.hid fun o o' => show Grew w ((w.alloc o).alloc o') from ((Grew.refl _).alloc _).alloc _
  obtain ⟨r1, hr1⟩ : ∃ r, cmpL a.1 b.1 = r := ⟨_, rfl⟩
  obtain ⟨r2, hr2⟩ : ∃ r, cmpL a.2 b.2 = r := ⟨_, rfl⟩
  have HR : Hid (cmpNd a b = orI r1 r2) := Lib.hid (by unfold cmpNd; rw [hr1, hr2])
  have C1 := Lib.hid fun (W : World) (hW : Below w.heap.size w W) => (compare_calls' v1 v1' a.1 b.1 r1 (Lib.hid hr1) W lo hi lo' hi' (h1.below hW hh) (h1'.below hW hh')).mono fun _ _ h => (⟨h.1, h.2.symm⟩ : _ ∧ _ = W)
  have C2 := Lib.hid fun (W : World) (hW : Below w.heap.size w W) => (compare_calls' v2 v2' a.2 b.2 r2 (Lib.hid hr2) W lo hi lo' hi' (h2.below hW hh) (h2'.below hW hh')).mono fun _ _ h => (⟨h.1, h.2.symm⟩ : _ ∧ _ = W)
  clear h1 h2 h1' h2' hr1 hr2
  go_enter Try.func78, Try.ntmps78
  go_wp2_with fail
  have HB := HB0.out (.cells #[v1, v2] 57) (.cells #[v1', v2'] 57)
  have HG := HG0.out (.cells #[v1, v2] 57) (.cells #[v1', v2'] 57)
  have d1 : ((w.alloc (.cells #[v1, v2] 57)).alloc (.cells #[v1', v2'] 57)).cell? ⟨w.heap.size, 0, none⟩ = some v1 := by go_simp
  have d2 : ((w.alloc (.cells #[v1, v2] 57)).alloc (.cells #[v1', v2'] 57)).cell? ⟨w.heap.size, 1, none⟩ = some v2 := by go_simp
  have d3 : ((w.alloc (.cells #[v1, v2] 57)).alloc (.cells #[v1', v2'] 57)).cell? ⟨w.heap.size + 1, 0, none⟩ = some v1' := by go_simp
  have d4 : ((w.alloc (.cells #[v1, v2] 57)).alloc (.cells #[v1', v2'] 57)).cell? ⟨w.heap.size + 1, 1, none⟩ = some v2' := by go_simp
  have hsz : ((w.alloc (.cells #[v1, v2] 57)).alloc (.cells #[v1', v2'] 57)).heap.size = w.heap.size + 1 + 1 := by simp
  generalize (w.alloc (.cells #[v1, v2] 57)).alloc (.cells #[v1', v2'] 57) = W at HB HG d1 d2 d3 d4 hsz ⊢
  have HB' : Below w.heap.size w W.drew := below_drewN HB 1
  have HG' : Hid (Grew w W.drew) := Lib.hid HG.drew
  have HZ := Lib.hid hsz
  clear hsz HG
  go_still_tail 10, (by kernel_rfl)
  still_call (C1.out _ HB')
  repeat still_step
  still_call (C2.out _ HB')
  repeat still_step
  refine wpStill_nil ?_
  change wpList _ _ _ _ _ W.drew
  generalize W.drew = W2 at HB' HG'
  have HB2 := Lib.hid HB'
  have C3 := Lib.hid fun (W : World) (g c : Nat) => or_calls r1 r2 g c W
  clear HB' HB d1 d2 d3 d4 C1 C2
  go_wp2_with fail
  refine (C3.out _ _ _ ?_ ?_).mono ?_
  · go_simp
  · go_simp
  rintro e w4 ⟨rfl, rfl⟩
  go_wp2_with fail
  go_ret
  exact ⟨ret_int HR.out.symm, HG'.out.alloc _⟩

/-- nodes that may be compared: which, and where they lie -/
structure CmpAt (w : World) (pb gm n cm : Nat) (vs : List (Value × Value)) (M : List Nz) (lo hi : Nat) : Prop where
  box : w.cell? ⟨pb, 0, none⟩ = some (.slice (some ⟨gm, 0, none⟩) n cm)
  len : vs.length = n ∧ M.length = n ∧ n ≤ cm
  at_ : ∀ (j : Nat) (nd : Nz) (p : Value × Value), M[j]? = some nd → vs[j]? = some p → w.cell? ⟨gm, j * 2, none⟩ = some p.1 ∧ w.cell? ⟨gm, j * 2 + 1, none⟩ = some p.2 ∧ IntsZ w lo hi p.1 nd.1 ∧ IntsZ w lo hi p.2 nd.2

set_option maxRecDepth 100000 in
set_option maxHeartbeats 1000000 in
theorem closure_calls (i j : Nat) (w : World) (pb gm n cm : Nat) (vs : List (Value × Value)) (M : List Nz) (lo hi : Nat) (hh : hi ≤ w.heap.size) (h : CmpAt w pb gm n cm vs M lo hi) (hi' : i < n) (hj : j < n) (hn : n ≤ 1000000) :
    Calls Try.prog 77 #[.int .i64 (i : Int), .int .i64 (j : Int), .pointer (some ⟨pb, 0, none⟩)] w fun e w' => e = .returned (.int .i64 (cmpNd (M.getD i ([], [])) (M.getD j ([], [])))) ∧ Grew w w' := by
  obtain ⟨nd, hnd⟩ := lt_get (l := M) (i := i) (by rw [h.len.2.1]; exact hi')
  obtain ⟨nd', hnd'⟩ := lt_get (l := M) (i := j) (by rw [h.len.2.1]; exact hj)
  obtain ⟨p, hp⟩ := lt_get (l := vs) (i := i) (by rw [h.len.1]; exact hi')
  obtain ⟨p', hp'⟩ := lt_get (l := vs) (i := j) (by rw [h.len.1]; exact hj)
  obtain ⟨c1, c2, i1, i2⟩ := h.at_ i nd p hnd hp
  obtain ⟨c1', c2', i1', i2'⟩ := h.at_ j nd' p' hnd' hp'
  have hb := h.box
  have e1 : M.getD i ([], []) = nd := by rw [List.getD_eq_getElem?_getD, hnd]; rfl
  have e2 : M.getD j ([], []) = nd' := by rw [List.getD_eq_getElem?_getD, hnd']; rfl
  rw [e1, e2]
  have C := Lib.hid fun (W : World) (hW : Below w.heap.size w W) => cmpOptsG_calls p.1 p.2 p'.1 p'.2 nd nd' W lo hi lo hi (Nat.le_trans hh hW.size) (Nat.le_trans hh hW.size) (i1.below hW hh) (i2.below hW hh) (i1'.below hW hh) (i2'.below hW hh)
  have x0 : (0 : Int) ≤ i := by omega
  have x1 : (i : Int) < n := by omega
  have y0 : (0 : Int) ≤ j := by omega
  have y1 : (j : Int) < n := by omega
  clear h hnd hnd' hp hp' i1 i2 i1' i2' e1 e2
  go_enter Try.func77, Try.ntmps77
  go_wp2
  have HW := Lib.hid (below_drewN (RowKit.Below.refl w.heap.size w) 1)
  have HG := Lib.hid (Grew.refl w).drew
  go_still_tail 8, (by kernel_rfl)
  repeat still_step
  go_wp2_with fail
  refine (C.out _ HW.out).mono ?_
  rintro e w4 ⟨rfl, hg⟩
  go_wp2_with fail
  go_ret
  obtain ⟨q, os, rfl⟩ := hg
  exact ⟨rfl, 1 + q, os, by cases w; simp [grow, World.drewN, World.drew, Nat.add_assoc]⟩
end

section
open Go.RowKit Go.Sort
set_option linter.unusedVariables false
set_option linter.unusedSimpArgs false

/-- the lists of nodes, each in a block of its own -/
structure OwnL (w : World) (base : Nat) (vs : List (Value × Value)) (f : List Nz) : Prop where
  len : vs.length = f.length
  list : ∀ (j : Nat) (nd : Nz) (p : Value × Value), f[j]? = some nd → vs[j]? = some p → OwnI w base p.1 nd.1 ∧ OwnI w base p.2 nd.2
  two : ∀ (j : Nat) (p : Value × Value), vs[j]? = some p → Apart p.1 p.2
  sep : ∀ (i j : Nat) (p q : Value × Value), i ≠ j → vs[i]? = some p → vs[j]? = some q → Apart p.1 q.1 ∧ Apart p.1 q.2 ∧ Apart p.2 q.1 ∧ Apart p.2 q.2

theorem OwnL.only {w w' : World} {base : Nat} {vs : List (Value × Value)} {f : List Nz} {F : Nat → Prop} (h : OwnL w base vs f) (ho : Only w w' F) (hn : ∀ (j : Nat) (p : Value × Value) (g : Nat), vs[j]? = some p → (p.1.ownBlock = some g ∨ p.2.ownBlock = some g) → ¬ F g) : OwnL w' base vs f :=
  ⟨h.len, fun j nd p h1 h2 => ⟨(h.list j nd p h1 h2).1.only ho (fun g hg => hn j p g h2 (Or.inl hg)), (h.list j nd p h1 h2).2.only ho (fun g hg => hn j p g h2 (Or.inr hg))⟩, h.two, h.sep⟩

theorem OwnL.lt {w : World} {base : Nat} {vs : List (Value × Value)} {f : List Nz} (h : OwnL w base vs f) {j : Nat} {p : Value × Value} {g : Nat} (hp : vs[j]? = some p) (hg : p.1.ownBlock = some g ∨ p.2.ownBlock = some g) : base ≤ g ∧ g < w.heap.size := by
  obtain ⟨nd, hnd⟩ := lt_get (l := f) (i := j) (by rw [← h.len]; exact get_lt hp)
  have := h.list j nd p hnd hp
  rcases hg with hg | hg
  · exact this.1.lt g hg
  · exact this.2.lt g hg

theorem OwnL.set {w w' : World} {base j : Nat} {vs : List (Value × Value)} {f : List Nz} {nd : Nz} {p : Value × Value} (h : OwnL w base vs f) (hb : Below w.heap.size w w') (hbase : base ≤ w.heap.size)
    (h1 : OwnI w' w.heap.size p.1 nd.1) (h2 : OwnI w' w.heap.size p.2 nd.2) (ha : Apart p.1 p.2) : OwnL w' base (vs.set j p) (f.set j nd) := by
  have ho := Only.of_below (F := fun _ => False) hb
  have far : ∀ (i : Nat) (q : Value × Value), vs[i]? = some q → (Apart p.1 q.1 ∧ Apart p.1 q.2) ∧ (Apart p.2 q.1 ∧ Apart p.2 q.2) := fun i q hq =>
    ⟨⟨fun g e1 e2 => by have := h1.lt g e1; have := h.lt hq (Or.inl e2); omega, fun g e1 e2 => by have := h1.lt g e1; have := h.lt hq (Or.inr e2); omega⟩,
      ⟨fun g e1 e2 => by have := h2.lt g e1; have := h.lt hq (Or.inl e2); omega, fun g e1 e2 => by have := h2.lt g e1; have := h.lt hq (Or.inr e2); omega⟩⟩
  refine ⟨by rw [List.length_set, List.length_set]; exact h.len, fun i n0 q hi hq => ?_, fun i q hq => ?_, fun i k q r hne hq hr => ?_⟩
  · rcases set_get hi with ⟨rfl, rfl⟩ | ⟨hne, hi⟩
    · rcases set_get hq with ⟨_, rfl⟩ | ⟨e, _⟩
      · exact ⟨h1.mono hbase, h2.mono hbase⟩
      · exact absurd rfl e
    · rcases set_get hq with ⟨e, _⟩ | ⟨_, hq⟩
      · exact absurd e hne
      · have := h.list i n0 q hi hq
        exact ⟨this.1.only ho (fun _ _ => id), this.2.only ho (fun _ _ => id)⟩
  · rcases set_get hq with ⟨rfl, rfl⟩ | ⟨_, hq⟩
    · exact ha
    · exact h.two i q hq
  · rcases set_get hq with ⟨e1, e2⟩ | ⟨h3, hq2⟩
    · rcases set_get hr with ⟨e3, _⟩ | ⟨h4, hr2⟩
      · exact absurd (e1.trans e3.symm) hne
      · rw [e2]
        have := far k r hr2
        exact ⟨this.1.1, this.1.2, this.2.1, this.2.2⟩
    · rcases set_get hr with ⟨e3, e4⟩ | ⟨h4, hr2⟩
      · rw [e4]
        have := far i q hq2
        exact ⟨this.1.1.symm, this.2.1.symm, this.1.2.symm, this.2.2.symm⟩
      · exact h.sep i k q r hne hq2 hr2

def nilP : Value × Value := (.slice none 0 0, .slice none 0 0)
theorem getD_atP {vs : List (Value × Value)} {i : Nat} {p : Value × Value} (h : vs[i]? = some p) : vs.getD i nilP = p := by rw [List.getD_eq_getElem?_getD, h]; rfl
theorem getD_atN {f : List Nz} {i : Nat} {p : Nz} (h : f[i]? = some p) : f.getD i ([], []) = p := by rw [List.getD_eq_getElem?_getD, h]; rfl

/-- some of the nodes, each once, in a row of their own -/
theorem OwnF.of_pick {w : World} {base : Nat} {v : Value} {vs : List (Value × Value)} {f : List Nz} {idx : List Nat} (h : OwnL w base vs f) (hr : w.ownsRow base 57 2 v idx.length (rowN2 (idx.map (fun i => vs.getD i nilP))))
    (ha : ∀ (j : Nat) (p : Value × Value), vs[j]? = some p → Apart v p.1 ∧ Apart v p.2) (hi : ∀ i ∈ idx, i < f.length) (hn : idx.Nodup) : OwnF w base v (idx.map (fun i => vs.getD i nilP)) (idx.map (fun i => f.getD i ([], []))) := by
  have key : ∀ (j : Nat) (q : Value × Value), (idx.map (fun i => vs.getD i nilP))[j]? = some q → ∃ i nd, idx[j]? = some i ∧ vs[i]? = some q ∧ f[i]? = some nd := fun j q hq => by
    rw [List.getElem?_map] at hq
    cases hx : idx[j]? with
    | none => rw [hx] at hq; cases hq
    | some i =>
      rw [hx] at hq
      have hl := hi i (List.mem_of_getElem? hx)
      obtain ⟨p, hp⟩ := lt_get (l := vs) (i := i) (by rw [h.len]; exact hl)
      obtain ⟨nd, hnd⟩ := lt_get hl
      simp only [Option.map_some, Option.some.injEq] at hq
      rw [getD_atP hp] at hq
      subst hq
      exact ⟨i, nd, rfl, hp, hnd⟩
  refine ⟨by rw [List.length_map]; exact hr, by simp, fun j nd q hj hq => ?_, fun j q hq => ?_, fun i j p q hne hp hq => ?_⟩
  · obtain ⟨i, nd', h1, h2, h3⟩ := key j q hq
    rw [List.getElem?_map, h1] at hj
    simp only [Option.map_some, Option.some.injEq] at hj
    rw [getD_atN h3] at hj
    subst hj
    exact h.list i nd' q h3 h2
  · obtain ⟨i, nd', h1, h2, h3⟩ := key j q hq
    exact ⟨h.two i q h2, ha i q h2⟩
  · obtain ⟨i', _, h1, h2, _⟩ := key i p hp
    obtain ⟨j', _, h4, h5, _⟩ := key j q hq
    refine h.sep i' j' p q (fun e => ?_) h2 h5
    subst e
    have hil := get_lt h1
    have hjl := get_lt h4
    rw [List.getElem?_eq_getElem hil] at h1
    rw [List.getElem?_eq_getElem hjl] at h4
    injection h1 with h1
    injection h4 with h4
    exact hne ((List.getElem_inj hn).1 (h1.trans h4.symm))

structure InS (w0 wr : World) (gm pb n S4 : Nat) (Q : List Nat) (M : List Nd) (vs : List (Value × Value)) (idx : List Nat) (v : Value) : Prop where
  below : Below w0.heap.size w0 wr
  s4 : w0.heap.size < gm ∧ gm < pb ∧ pb < S4
  size : S4 ≤ wr.heap.size
  places : OwnI wr w0.heap.size (.slice (some ⟨w0.heap.size, 0, none⟩) n n) (upL Q)
  box : BoxAt wr (pb) (.slice (some ⟨gm, 0, none⟩) n n)
  row : wr.ownsRow w0.heap.size 57 2 (.slice (some ⟨gm, 0, none⟩) n n) n (rowN2 vs)
  lists : OwnL wr S4 vs (M.map upN)
  srt : wr.ownsRow S4 57 2 v idx.length (rowN2 (idx.map (fun i => vs.getD i nilP)))
  apart : ∀ (j : Nat) (p : Value × Value), vs[j]? = some p → Apart v p.1 ∧ Apart v p.2
  mlen : M.length = n
  qlen : Q.length = n
  idxlt : ∀ i ∈ idx, i < n
  nodup : idx.Nodup

/-- what is written lies in the days -/
theorem InS.only {w0 wr w' : World} {gm pb n S4 : Nat} {Q : List Nat} {M : List Nd} {vs : List (Value × Value)} {idx : List Nat} {v : Value} {F : Nat → Prop} (h : InS w0 wr gm pb n S4 Q M vs idx v) (ho : Only wr w' F) (hF : ∀ b, F b → pb < b ∧ b < S4) : InS w0 w' gm pb n S4 Q M vs idx v where
  below := h.below.trans (ho.below h.below.size (fun g hg => by have := hF g hg; have := h.s4; omega))
  s4 := h.s4
  size := Nat.le_trans h.size ho.size
  places := h.places.only ho (fun g e hg => by have := own_eqp e; have := hF g hg; have := h.s4; omega)
  box := h.box.only ho (fun hg => by have := hF _ hg; have := h.s4; omega)
  row := own_only h.row ho (fun g e hg => by have := own_eqp e; have := hF g hg; have := h.s4; omega)
  lists := h.lists.only ho (fun j p g hp hg hg' => by have := h.lists.lt hp hg; have := hF g hg'; have := h.s4; omega)
  srt := own_only h.srt ho (fun g e hg => by have := World.ownsRow.lt h.srt g e; have := hF g hg; have := h.s4; omega)
  apart := h.apart
  mlen := h.mlen
  qlen := h.qlen
  idxlt := h.idxlt
  nodup := h.nodup

theorem InS.below' {w0 wr w' : World} {gm pb n S4 : Nat} {Q : List Nat} {M : List Nd} {vs : List (Value × Value)} {idx : List Nat} {v : Value} (h : InS w0 wr gm pb n S4 Q M vs idx v) (hb : Below wr.heap.size wr w') : InS w0 w' gm pb n S4 Q M vs idx v :=
  h.only (Only.of_below (F := fun _ => False) hb) (fun _ h => h.elim)

theorem map_getD_set {α : Type} (vs : List α) (idx : List Nat) (i : Nat) (p d : α) (h : i ∉ idx) : idx.map (fun k => (vs.set i p).getD k d) = idx.map (fun k => vs.getD k d) := by
  apply List.map_congr_left
  intro k hk
  have hne : i ≠ k := fun e => h (e ▸ hk)
  rw [List.getD_eq_getElem?_getD, List.getD_eq_getElem?_getD, List.getElem?_set_ne hne]

/-- a node is moved -/
theorem InS.setM {w0 wr w' : World} {gm pb n S4 i : Nat} {Q : List Nat} {M : List Nd} {vs : List (Value × Value)} {idx : List Nat} {v : Value} {nd : Nd} {p : Value × Value} (h : InS w0 wr gm pb n S4 Q M vs idx v) (hb : Below wr.heap.size wr w')
    (h1 : OwnI w' wr.heap.size p.1 (upL nd.1)) (h2 : OwnI w' wr.heap.size p.2 (upL nd.2)) (ha : Apart p.1 p.2) (hi : i ∉ idx) :
    InS w0 ((w'.setCell ⟨gm, i * 2, none⟩ p.1).setCell ⟨gm, i * 2 + 1, none⟩ p.2) gm pb n S4 Q (M.set i nd) (vs.set i p) idx v := by
  have h' := h.below' hb
  have s1 := World.ownsRow.stored h'.row (i * 2) p.1
  have s2 := World.ownsRow.stored s1.1 (i * 2 + 1) p.2
  rw [rowN2_set] at s2
  have ho : Only w' ((w'.setCell ⟨gm, i * 2, none⟩ p.1).setCell ⟨gm, i * 2 + 1, none⟩ p.2) (fun b => b = gm) :=
    (Only.of_set (F := fun b => b = gm) (p := ⟨gm, i * 2, none⟩) p.1 rfl).trans (Only.of_set (F := fun b => b = gm) (p := ⟨gm, i * 2 + 1, none⟩) p.2 rfl) (fun _ _ e => e)
  have hl := h.lists.set (j := i) (nd := upN nd) hb h.size h1 h2 ha
  have hs4 := h.s4
  refine ⟨h'.below.trans (ho.below h'.below.size (fun g hg => by omega)), h.s4, Nat.le_trans h'.size ho.size, h'.places.only ho (fun g e hg => by have := own_eqp e; omega), h'.box.only ho (fun hg => by omega), s2.1, ?_, ?_, fun j q hq => ?_, by rw [List.length_set]; exact h.mlen, h.qlen, h.idxlt, h.nodup⟩
  · rw [List.map_set]
    exact hl.only ho (fun j q g hq hg hg' => by have := hl.lt hq hg; omega)
  · rw [map_getD_set _ _ _ _ _ hi]
    exact own_only h'.srt ho (fun g e hg => by have := World.ownsRow.lt h'.srt g e; omega)
  · rcases set_get hq with ⟨_, rfl⟩ | ⟨_, hq⟩
    · exact ⟨fun g e1 e2 => by have := World.ownsRow.lt h.srt g e1; have := h1.lt g e2; omega, fun g e1 e2 => by have := World.ownsRow.lt h.srt g e1; have := h2.lt g e2; omega⟩
    · exact h.apart j q hq

/-- a node is put behind the sorted ones -/
theorem InS.push {w0 wr w' : World} {gm pb n S4 i : Nat} {Q : List Nat} {M : List Nd} {vs : List (Value × Value)} {idx : List Nat} {v v' : Value} {p : Value × Value} (h : InS w0 wr gm pb n S4 Q M vs idx v) (hg : wr.grownBy w' v.ownBlock)
    (hn : w'.ownsRow S4 57 2 v' (idx.length + 1) (rowN2 (idx.map (fun i => vs.getD i nilP)) ++ [p.1, p.2])) (hat : v'.ownBlock = v.ownBlock ∨ v'.ownBlock = some wr.heap.size) (hp : vs[i]? = some p) (hi : i ∉ idx) :
    InS w0 w' gm pb n S4 Q M vs (idx ++ [i]) v' := by
  have ho : Only wr w' (fun b => v.ownBlock = some b) := Only.of_grown hg (fun g e => e)
  have hv : ∀ b, v.ownBlock = some b → S4 ≤ b := fun b e => (World.ownsRow.lt h.srt b e).1
  have hs4 := h.s4
  have hsz := h.size
  refine ⟨h.below.trans (ho.below h.below.size (fun b hb => by have := hv b hb; omega)), h.s4, Nat.le_trans h.size ho.size, h.places.only ho (fun g e hg => by have := own_eqp e; have := hv g hg; omega), h.box.only ho (fun hg => by have := hv _ hg; omega),
    own_only h.row ho (fun g e hg => by have := own_eqp e; have := hv g hg; omega), h.lists.only ho (fun j q g hq hg hg' => by rcases hg with e | e; exact (h.apart j q hq).1 g hg' e; exact (h.apart j q hq).2 g hg' e), ?_, fun j q hq => ?_, h.mlen, h.qlen, fun k hk => ?_, ?_⟩
  · rw [List.map_append, List.map_singleton, getD_atP hp, rowN2_snoc, List.length_append]
    exact hn
  · have := h.apart j q hq
    rcases hat with e | e
    · exact ⟨fun g e1 e2 => this.1 g (e ▸ e1) e2, fun g e1 e2 => this.2 g (e ▸ e1) e2⟩
    · exact ⟨fun g e1 e2 => by rw [e] at e1; injection e1 with e1; have := h.lists.lt hq (Or.inl e2); omega, fun g e1 e2 => by rw [e] at e1; injection e1 with e1; have := h.lists.lt hq (Or.inr e2); omega⟩
  · rcases List.mem_append.1 hk with hk | hk
    · exact h.idxlt k hk
    · simp only [List.mem_singleton] at hk
      subst hk
      have := get_lt hp
      have := h.lists.len
      have := h.mlen
      simp at *
      omega
  · rw [List.nodup_append]
    exact ⟨h.nodup, by simp, fun a ha b hb e => by simp only [List.mem_singleton] at hb; subst hb; subst e; exact hi ha⟩

/-- a place is told -/
theorem InS.setQ {w0 wr : World} {gm pb n S4 i k : Nat} {Q : List Nat} {M : List Nd} {vs : List (Value × Value)} {idx : List Nat} {v : Value} (h : InS w0 wr gm pb n S4 Q M vs idx v) :
    InS w0 (wr.setCell ⟨w0.heap.size, i, none⟩ (.int .i64 (k : Int))) gm pb n S4 (Q.set i k) M vs idx v := by
  have hs4 := h.s4
  have P := h.places.put (x := i) (v := (k : Int))
  rw [upL_set] at P
  have ho : Only wr (wr.setCell ⟨w0.heap.size, i, none⟩ (.int .i64 (k : Int))) (fun b => b = w0.heap.size) := Only.of_set _ rfl
  exact ⟨h.below.trans (ho.below h.below.size (fun g hg => by omega)), h.s4, Nat.le_trans h.size ho.size, P.1, h.box.only ho (fun hg => by omega), own_only h.row ho (fun g e hg => by have := own_eqp e; omega),
    h.lists.only ho (fun j q g hq hg hg' => by have := h.lists.lt hq hg; omega), own_only h.srt ho (fun g e hg => by have := World.ownsRow.lt h.srt g e; omega), h.apart, h.mlen, by rw [List.length_set]; exact h.qlen, h.idxlt, h.nodup⟩

/-- a moved node's two lists -/
theorem InS.node {w0 wr : World} {gm pb n S4 i : Nat} {Q : List Nat} {M : List Nd} {vs : List (Value × Value)} {idx : List Nat} {v : Value} (h : InS w0 wr gm pb n S4 Q M vs idx v) (hi : i < n) :
    ∃ p nd, vs[i]? = some p ∧ M[i]? = some nd ∧ wr.cell? ⟨gm, i * 2, none⟩ = some p.1 ∧ wr.cell? ⟨gm, i * 2 + 1, none⟩ = some p.2 ∧ wr.frozen? ⟨gm, i * 2, none⟩ = false ∧ wr.frozen? ⟨gm, i * 2 + 1, none⟩ = false ∧ OwnI wr S4 p.1 (upL nd.1) ∧ OwnI wr S4 p.2 (upL nd.2) := by
  have hml := h.mlen
  obtain ⟨nd, hnd⟩ := lt_get (l := M) (i := i) (by omega)
  have hll := h.lists.len
  rw [List.length_map] at hll
  obtain ⟨p, hp⟩ := lt_get (l := vs) (i := i) (by omega)
  have hr := rowN2_at vs i p hp
  have hl := h.lists.list i (upN nd) p (by rw [List.getElem?_map, hnd]; rfl) hp
  refine ⟨p, nd, hp, hnd, ?_, ?_, World.ownsRow.frozenAt h.row _, World.ownsRow.frozenAt h.row _, hl.1, hl.2⟩
  · rw [World.ownsRow.cellAt h.row (i * 2) (by omega)]; exact hr.1
  · rw [World.ownsRow.cellAt h.row (i * 2 + 1) (by omega)]; exact hr.2

theorem InS.cmpAt {w0 wr : World} {gm pb n S4 : Nat} {Q : List Nat} {M : List Nd} {vs : List (Value × Value)} {idx : List Nat} {v : Value} (h : InS w0 wr gm pb n S4 Q M vs idx v) :
    CmpAt wr pb gm n n vs (M.map upN) S4 wr.heap.size := by
  have hml := h.mlen
  have hll := h.lists.len
  rw [List.length_map] at hll
  refine ⟨h.box.1, ⟨by omega, by rw [List.length_map]; exact hml, Nat.le_refl _⟩, fun j nd p hj hp => ?_⟩
  have hr := rowN2_at vs j p hp
  have hl := h.lists.list j nd p hj hp
  have := get_lt hp
  refine ⟨?_, ?_, hl.1.ints, hl.2.ints⟩
  · rw [World.ownsRow.cellAt h.row (j * 2) (by omega)]; exact hr.1
  · rw [World.ownsRow.cellAt h.row (j * 2 + 1) (by omega)]; exact hr.2

/-- the last one of the sorted -/
theorem InS.last {w0 wr : World} {gm pb n S4 : Nat} {Q : List Nat} {M : List Nd} {vs : List (Value × Value)} {idx : List Nat} {v : Value} (h : InS w0 wr gm pb n S4 Q M vs idx v) (hi : 0 < idx.length) :
    ∃ i g c p nd, idx[idx.length - 1]? = some i ∧ v = .slice (some ⟨g, 0, none⟩) idx.length c ∧ vs[i]? = some p ∧ M[i]? = some nd ∧ wr.cell? ⟨g, (idx.length - 1) * 2, none⟩ = some p.1 ∧ wr.cell? ⟨g, (idx.length - 1) * 2 + 1, none⟩ = some p.2 ∧ OwnI wr S4 p.1 (upL nd.1) ∧ OwnI wr S4 p.2 (upL nd.2) := by
  obtain ⟨i, hx⟩ := lt_get (l := idx) (i := idx.length - 1) (by omega)
  have hin := h.idxlt i (List.mem_of_getElem? hx)
  obtain ⟨p, nd, hp, hnd, _, _, _, _, i1, i2⟩ := h.node hin
  have hr := h.srt
  obtain ⟨a, c, rfl⟩ := own_form' hr
  rcases hr.2 with ⟨h1, h0⟩ | ⟨g, c', cs, h1, _⟩
  · omega
  · injection h1 with h1 _ _
    subst h1
    have hq := rowN2_at (idx.map (fun i => vs.getD i nilP)) (idx.length - 1) p (by rw [List.getElem?_map, hx]; simp only [Option.map_some]; rw [getD_atP hp])
    refine ⟨i, g, c, p, nd, hx, rfl, hp, hnd, ?_, ?_, i1, i2⟩
    · rw [World.ownsRow.cellAt hr ((idx.length - 1) * 2) (by omega)]; exact hq.1
    · rw [World.ownsRow.cellAt hr ((idx.length - 1) * 2 + 1) (by omega)]; exact hq.2
end

section
open Go.RowKit Go.Sort Go.Shelf
set_option linter.unusedVariables false
set_option linter.unusedSimpArgs false

/-- numbers below n, as they lie in memory -/
def encF {n : Nat} (i : Fin n) : Value := .int .i64 ((i.val : Nat) : Int)
theorem encF_one {n : Nat} : OneCell (encF (n := n)) := fun _ => rfl

theorem putRow_fin {n : Nat} [Inhabited (Fin n)] (w : World) (g off : Nat) (d : Array (Fin n)) : putRow encF w g off d = putRow (Value.int .i64) w g off (d.map (fun i => ((i.val : Nat) : Int))) := by
  unfold putRow
  congr 1
  funext c
  unfold putCells
  apply Array.ext_getElem?
  intro k
  simp only [Array.getElem?_mapIdx, Array.size_map]
  cases c[k]? with
  | none => rfl
  | some y =>
    simp only [Option.map_some]
    by_cases h : off ≤ k ∧ k < off + d.size
    · rw [if_pos h, if_pos h]
      have hk : k - off < d.size := by omega
      rw [getElem!_pos d (k - off) hk, getElem!_pos (d.map _) (k - off) (by simpa using hk)]
      simp [encF]
    · rw [if_neg h, if_neg h]

theorem ltNd_false {a b c : Nd} (h1 : ltNd a b = false) (h2 : ltNd b c = false) : ltNd a c = false := by
  cases h : ltNd a c with
  | false => rfl
  | true =>
    rcases ltNd_tri a b with h3 | h3 | h3
    · rw [h3] at h1; cases h1
    · subst h3; rw [h] at h2; cases h2
    · have := ltNd_trans b a c h3 h
      rw [this] at h2; cases h2

/-- the comparing of the nodes at two places -/
def cfM (M : List Nd) {n : Nat} (i j : Fin n) : Int := cmpNd ((M.map upN).getD i.val ([], [])) ((M.map upN).getD j.val ([], []))
theorem upN_getD (M : List Nd) (i : Nat) : (M.map upN).getD i ([], []) = upN (M.getD i ([], [])) := by
  rw [List.getD_eq_getElem?_getD, List.getD_eq_getElem?_getD, List.getElem?_map]
  cases M[i]? <;> rfl
theorem ltOf_cf (M : List Nd) {n : Nat} (i j : Fin n) : ltOf (cfM M) i j = ltNd (M.getD i.val ([], [])) (M.getD j.val ([], [])) := by
  unfold ltOf cfM
  rw [upN_getD, upN_getD]
  have := cmpNd_up (M.getD i.val ([], [])) (M.getD j.val ([], []))
  by_cases h : cmpNd (upN (M.getD i.val ([], []))) (upN (M.getD j.val ([], []))) < 0
  · rw [decide_eq_true h, this.1 h]
  · rw [decide_eq_false h]
    cases h2 : ltNd (M.getD i.val ([], [])) (M.getD j.val ([], [])) with
    | false => rfl
    | true => exact absurd (this.2 h2) h
theorem swo_cf (M : List Nd) {n : Nat} : SWO (ltOf (cfM M (n := n))) where
  irrefl x := by rw [ltOf_cf]; exact ltNd_irrefl _
  trans x y z h1 h2 := by rw [ltOf_cf] at *; exact ltNd_trans _ _ _ h1 h2
  ntrans x y z h1 h2 := by rw [ltOf_cf] at *; exact ltNd_false h1 h2

theorem CmpAt.only {w w' : World} {pb gm n cm : Nat} {vs : List (Value × Value)} {M : List Nz} {lo hi : Nat} {F : Nat → Prop} (h : CmpAt w pb gm n cm vs M lo hi) (ho : Only w w' F) (hh : hi ≤ w.heap.size) (h1 : ¬ F pb) (h2 : ¬ F gm) (h3 : ∀ b, lo ≤ b → b < hi → ¬ F b) : CmpAt w' pb gm n cm vs M lo hi :=
  ⟨(ho.cell (block_of_cell h.box) h1).trans h.box, h.len, fun j nd p hj hp => by
    obtain ⟨c1, c2, i1, i2⟩ := h.at_ j nd p hj hp
    have hs : SameIn lo hi w w' := fun b o e1 e2 => ho.cell (by omega) (h3 b e1 e2)
    exact ⟨(ho.cell (block_of_cell c1) h2).trans c1, (ho.cell (block_of_cell c1) h2).trans c2, i1.keep hs, i2.keep hs⟩⟩

theorem perm_in {α : Type} [Inhabited α] {d d' : Array α} (h : PermIn 0 d.size d d') : d'.toList.Perm d.toList := by
  obtain ⟨h1, _, h3⟩ := h
  have e1 : (d'.extract 0 d.size) = d' := by rw [← h1]; exact Array.extract_size
  have e2 : (d.extract 0 d.size) = d := Array.extract_size
  rwa [e1, e2] at h3

theorem sorted_in {α : Type} [Inhabited α] {lt : α → α → Bool} {d : Array α} {n : Nat} (hn : d.size = n) (h : SortedIn lt 0 n d) : d.toList.Pairwise (fun a b => lt b a = false) := by
  rw [List.pairwise_iff_getElem]
  intro i j hi hj hij
  have hi' : i < d.size := by simpa using hi
  have hj' : j < d.size := by simpa using hj
  have := h i j (Nat.zero_le _) hij (by omega)
  rw [getElem!_pos d i hi', getElem!_pos d j hj'] at this
  simpa using this

set_option maxHeartbeats 1000000 in
theorem sortDay_calls (D : List Nat) (M : List Nd) (w : World) (base g c pb gm n cm : Nat) (vs : List (Value × Value)) (lo hi : Nat) (ho : OwnI w base (.slice (some ⟨g, 0, none⟩) D.length c) (upL D)) (h : CmpAt w pb gm n cm vs (M.map upN) lo hi) (hh : hi ≤ w.heap.size)
    (hD : ∀ x ∈ D, x < n) (h1 : g ≠ pb) (h2 : g ≠ gm) (h3 : g < lo ∨ hi ≤ g) (hn : n ≤ 1000000) (hl : D.length ≤ 1000000) (h0 : 0 < n) :
    Calls Try.prog 76 #[.slice (some ⟨g, 0, none⟩) D.length c, .func (.func 77) #[] #[.pointer (some ⟨pb, 0, none⟩)]] w fun e w' => e = .returned (.tuple #[]) ∧ ∃ D', D'.Perm D ∧ D'.Pairwise (fun a b => ltNd (M.getD b ([], [])) (M.getD a ([], [])) = false) ∧
      OwnI w' base (.slice (some ⟨g, 0, none⟩) D.length c) (upL D') ∧ w.grownBy w' (some g) := by
  haveI : Inhabited (Fin n) := ⟨⟨0, h0⟩⟩
  have hul : (upL D).length = D.length := upL_len D
  rw [← hul] at ho
  obtain ⟨cur, hb, c1, c2, c3, ht, hbase, _⟩ := ho.cur
  have hhold := holds_of_blockI hb ht
  obtain ⟨DF, hDF⟩ : ∃ DF : List (Fin n), DF.map (fun i => i.val) = D := ⟨D.pmap (fun x hx => ⟨x, hx⟩) hD, by rw [List.map_pmap]; simp⟩
  have hup : upL D = DF.map (fun i => ((i.val : Nat) : Int)) := by rw [← hDF]; unfold upL; rw [List.map_map]; rfl
  have hDFl : DF.length = D.length := by rw [← hDF]; simp
  have hH : Holds encF w g 0 DF.toArray := fun j hj => by
    have hj' : j < DF.length := by simpa using hj
    have := hhold j (by rw [List.size_toArray, hul, ← hDFl]; exact hj')
    refine ⟨?_, this.2⟩
    rw [this.1, getElem!_pos _ j (by simpa [hul, ← hDFl] using hj'), getElem!_pos _ j (by simpa using hj')]
    simp [hup, encF]
  have eg : ∀ args w, (callFunc 77 args).run Try.prog w = .ok (.enter 77 args) w := enters_of Try.func77 (by kernel_rfl) rfl
  have hcmp : CmpLays1 Try.prog 77 #[.pointer (some ⟨pb, 0, none⟩)] encF (cfM M (n := n)) g 0 DF.toArray.size w := fun m os dk hs x y => by
    have hg : w.grownBy (sortWorld encF w g 0 m dk os) (some g) := by
      unfold sortWorld
      rw [putRow_fin]
      exact grownBy_sortedI _
    have ho2 : Only w (sortWorld encF w g 0 m dk os) (fun b => b = g) := Only.of_grown hg (fun q e => by injection e with e; exact e.symm)
    have hc := h.only ho2 hh (fun e => h1 e.symm) (fun e => h2 e.symm) (fun b e1 e2 e3 => by omega)
    exact closure_calls x.val y.val _ pb gm n cm vs (M.map upN) lo hi (Nat.le_trans hh ho2.size) hc x.isLt y.isLt hn
  have hcon := Any.slices_SortFunc Try.sortF encF encF_one (cfM M (n := n)) (swo_cf M) 77 #[.pointer (some ⟨pb, 0, none⟩)] g 0 c DF.toArray w eg hcmp hH (ho.lt g rfl).2 (by simp; omega)
  change Calls Try.prog 76 _ _ _ at hcon
  have es : DF.toArray.size = D.length := by simp [hDFl]
  rw [es] at hcon
  refine hcon.mono ?_
  rintro e w' ⟨rfl, d', q, os, hp, hs, rfl⟩
  rw [← es] at hp hs
  have hperm := perm_in hp
  have hsz : d'.size = DF.toArray.size := hp.1
  have hpl : (d'.toList.map (fun i => i.val)).Perm D := by
    have := hperm.map (fun i => i.val)
    rw [List.toList_toArray, hDF] at this
    exact this
  have hul' : upL (d'.toList.map (fun i => i.val)) = d'.toList.map (fun i => ((i.val : Nat) : Int)) := by unfold upL; rw [List.map_map]; rfl
  have hlen' : (d'.toList.map (fun i => ((i.val : Nat) : Int))).length = (upL D).length := by simp [hul, hsz, hDFl]
  have harr : d'.map (fun i => ((i.val : Nat) : Int)) = (d'.toList.map (fun i => ((i.val : Nat) : Int))).toArray := by
    apply Array.ext'
    simp
  refine ⟨rfl, d'.toList.map (fun i => i.val), hpl, ?_, ?_, ?_⟩
  · rw [List.pairwise_map]
    refine (sorted_in hsz hs).imp fun {a b} hab => ?_
    rwa [ltOf_cf] at hab
  · unfold sortWorld
    rw [putRow_fin, harr, hul']
    have := ownsRow_sortedI (n := q) (os := os) hlen' hbase hb c1 c2 c3
    unfold OwnI
    rw [hlen', ← hul]
    exact this
  · unfold sortWorld
    rw [putRow_fin]
    exact grownBy_sortedI _
end

section
open Go.RowKit
set_option linter.unusedVariables false
set_option linter.unusedSimpArgs false

/-- a list is sorted where it lies -/
theorem OwnR.sorted {w w1 : World} {base j : Nat} {v : Value} {vs : List Value} {ls : List (List Int)} {l l' : List Int} {p : Value} (h : OwnR w base v vs ls) (hj : ls[j]? = some l) (hp : vs[j]? = some p)
    (ho : Only w w1 (fun b => p.ownBlock = some b)) (hl : OwnI w1 base p l') : OwnR w1 base v vs (ls.set j l') := by
  refine ⟨by rw [List.length_set]; exact own_only h.rows ho (fun b h1 h2 => h.two j p hp b h1 h2), by rw [List.length_set]; exact h.len, fun i l0 q hi hq => ?_, h.two, h.sep⟩
  rcases set_get hi with ⟨rfl, rfl⟩ | ⟨hne, hi⟩
  · rw [hp] at hq
    injection hq with hq
    subst hq
    exact hl
  · exact (h.list i l0 q hi hq).only ho (fun b e1 e2 => h.sep i j q p hne hq hp b e1 e2)

structure DaysAt (w : World) (B3 S4 : Nat) (v : Value) (vds : List Value) (L L' : List (List Nat)) (d : Nat) : Prop where
  own : OwnR w B3 v vds (L'.map upL)
  len : L'.length = L.length
  rest : ∀ e, d ≤ e → L'[e]? = L[e]?
  blk : ∀ (j : Nat) (p : Value) (g : Nat), vds[j]? = some p → p.ownBlock = some g → B3 ≤ g ∧ g < S4
  vblk : ∀ g, v.ownBlock = some g → B3 ≤ g ∧ g < S4

theorem DaysAt.only {w w' : World} {B3 S4 : Nat} {v : Value} {vds : List Value} {L L' : List (List Nat)} {d : Nat} {F : Nat → Prop} (h : DaysAt w B3 S4 v vds L L' d) (ho : Only w w' F) (hF : ∀ b, F b → b < B3 ∨ S4 ≤ b) : DaysAt w' B3 S4 v vds L L' d :=
  ⟨⟨own_only h.own.rows ho (fun g e hg => by have := h.vblk g e; have := hF g hg; omega), h.own.len, fun j l p h1 h2 => (h.own.list j l p h1 h2).only ho (fun g e hg => by have := h.blk j p g h2 e; have := hF g hg; omega), h.own.two, h.own.sep⟩, h.len, h.rest, h.blk, h.vblk⟩
theorem DaysAt.below {w w' : World} {B3 S4 : Nat} {v : Value} {vds : List Value} {L L' : List (List Nat)} {d : Nat} (h : DaysAt w B3 S4 v vds L L' d) (hb : Below w.heap.size w w') : DaysAt w' B3 S4 v vds L L' d :=
  h.only (Only.of_below (F := fun _ => False) hb) (fun _ h => h.elim)
theorem DaysAt.next {w : World} {B3 S4 : Nat} {v : Value} {vds : List Value} {L L' : List (List Nat)} {d : Nat} (h : DaysAt w B3 S4 v vds L L' d) : DaysAt w B3 S4 v vds L L' (d + 1) := ⟨h.own, h.len, fun e he => h.rest e (by omega), h.blk, h.vblk⟩

/-- the day at hand -/
theorem DaysAt.get {w : World} {B3 S4 : Nat} {v : Value} {vds : List Value} {L L' : List (List Nat)} {d : Nat} {l : List Nat} (h : DaysAt w B3 S4 v vds L L' d) (hd : L[d]? = some l) (hne : l ≠ []) :
    ∃ gv cv g c, v = .slice (some ⟨gv, 0, none⟩) L.length cv ∧ vds[d]? = some (.slice (some ⟨g, 0, none⟩) l.length c) ∧ w.cell? ⟨gv, d, none⟩ = some (.slice (some ⟨g, 0, none⟩) l.length c) ∧ OwnI w B3 (.slice (some ⟨g, 0, none⟩) l.length c) (upL l) ∧ B3 ≤ g ∧ g < S4 ∧ L'[d]? = some l := by
  have hd' := h.rest d (Nat.le_refl _)
  rw [hd] at hd'
  obtain ⟨p, gv, a, c, n, hp, hv, hc, hf, rfl, hi, _, _⟩ := h.own.get (j := d) (l := upL l) (by rw [List.getElem?_map, hd']; rfl)
  rw [List.length_map, h.len] at hv
  rw [upL_len] at hp hc hi
  obtain ⟨g, rfl⟩ : ∃ g, a = some ⟨g, 0, none⟩ := by
    rcases hi.2 with ⟨h1, h0⟩ | ⟨g, c', cs, h1, _⟩
    · rw [upL_len] at h0
      exact absurd (List.length_eq_zero_iff.1 h0) hne
    · injection h1 with h1 _ _
      exact ⟨g, h1⟩
  have := h.blk d _ g hp rfl
  exact ⟨gv, n, g, c, hv, hp, hc, hi, this.1, this.2, hd'⟩

theorem DaysAt.sorted {w w' : World} {B3 S4 : Nat} {v : Value} {vds : List Value} {L L' : List (List Nat)} {d g c : Nat} {l l' : List Nat} (h : DaysAt w B3 S4 v vds L L' d) (hd : L[d]? = some l) (hp : vds[d]? = some (.slice (some ⟨g, 0, none⟩) l.length c))
    (hg : w.grownBy w' (some g)) (hl : OwnI w' B3 (.slice (some ⟨g, 0, none⟩) l.length c) (upL l')) : DaysAt w' B3 S4 v vds L (L'.set d l') (d + 1) := by
  have hd' := h.rest d (Nat.le_refl _)
  rw [hd] at hd'
  have ho : Only w w' (fun b => (Value.slice (some ⟨g, 0, none⟩) l.length c).ownBlock = some b) := Only.of_grown hg (fun q e => e)
  refine ⟨?_, by rw [List.length_set]; exact h.len, fun e he => ?_, h.blk, h.vblk⟩
  · rw [List.map_set]
    exact h.own.sorted (l := upL l) (by rw [List.getElem?_map, hd']; rfl) hp ho hl
  · rw [List.getElem?_set_ne (by omega)]
    exact h.rest e (by omega)

theorem DaysAt.row {w : World} {B3 S4 : Nat} {v p : Value} {vds : List Value} {L L' : List (List Nat)} {d : Nat} {l : List Nat} (h : DaysAt w B3 S4 v vds L L' d) (hd : L[d]? = some l) (hp : vds[d]? = some p) : OwnI w B3 p (upL l) := by
  have hd' := h.rest d (Nat.le_refl _)
  rw [hd] at hd'
  exact h.own.list d (upL l) p (by rw [List.getElem?_map, hd']; rfl) hp

theorem in3 {w w' : World} {b c d o1 o2 o3 : Nat} {v1 v2 v3 : Value} (h1 : w.cell? ⟨b, o1, none⟩ = some v1) (h2 : w.cell? ⟨c, o2, none⟩ = some v2) (h3 : w.cell? ⟨d, o3, none⟩ = some v3) (hB : Below w.heap.size w w') : w'.cell? ⟨b, o1, none⟩ = some v1 ∧ w'.cell? ⟨c, o2, none⟩ = some v2 ∧ w'.cell? ⟨d, o3, none⟩ = some v3 :=
  ⟨(bcell hB _ _ (block_of_cell h1)).trans h1, (bcell hB _ _ (block_of_cell h2)).trans h2, (bcell hB _ _ (block_of_cell h3)).trans h3⟩

theorem in3s {w w' : World} {b c d o1 o2 o3 g p q : Nat} {v1 v2 v3 u1 u2 : Value} (h1 : w.cell? ⟨b, o1, none⟩ = some v1) (h2 : w.cell? ⟨c, o2, none⟩ = some v2) (h3 : w.cell? ⟨d, o3, none⟩ = some v3) (hB : Below w.heap.size w w') (n1 : b ≠ g) (n2 : c ≠ g) (n3 : d ≠ g) :
    ((w'.setCell ⟨g, p, none⟩ u1).setCell ⟨g, q, none⟩ u2).cell? ⟨b, o1, none⟩ = some v1 ∧ ((w'.setCell ⟨g, p, none⟩ u1).setCell ⟨g, q, none⟩ u2).cell? ⟨c, o2, none⟩ = some v2 ∧ ((w'.setCell ⟨g, p, none⟩ u1).setCell ⟨g, q, none⟩ u2).cell? ⟨d, o3, none⟩ = some v3 := by
  have key : ∀ {e o : Nat}, e ≠ g → ((w'.setCell ⟨g, p, none⟩ u1).setCell ⟨g, q, none⟩ u2).cell? ⟨e, o, none⟩ = w'.cell? ⟨e, o, none⟩ := fun {e o} hne => by
    rw [World.cell?_setCell_other _ _ _ _ (fun h => by injection h with h; exact hne h.symm), World.cell?_setCell_other _ _ _ _ (fun h => by injection h with h; exact hne h.symm)]
  obtain ⟨k1, k2, k3⟩ := in3 h1 h2 h3 hB
  exact ⟨(key n1).trans k1, (key n2).trans k2, (key n3).trans k3⟩

theorem getD_set_eqN (M : List Nd) (x y : Nat) (nd : Nd) (hx : x < M.length) : (M.set x nd).getD y ([], []) = if x = y then nd else M.getD y ([], []) := by
  rw [List.getD_eq_getElem?_getD, List.getD_eq_getElem?_getD]
  by_cases h : x = y
  · subst h; rw [if_pos rfl, List.getElem?_set_self hx]; rfl
  · rw [if_neg h, List.getElem?_set_ne h]

theorem out_last {M : List Nd} {idx : List Nat} {i : Nat} {nd : Nd} (h : idx[idx.length - 1]? = some i) (hn : M[i]? = some nd) : (idx.map (fun i => M.getD i ([], []))).getLast? = some nd := by
  rw [List.getLast?_eq_getElem?, List.length_map, List.getElem?_map, h]
  simp only [Option.map_some]
  rw [getD_at hn]

theorem pl_set {Q : List Nat} {x v : Nat} (h : x < Q.length) : (fun y => (Q.set x v).getD y 0) = (fun y => if y = x then v else Q.getD y 0) := by
  funext y
  by_cases e : y = x
  · subst e; rw [if_pos rfl, getD_set_same _ _ _ h]
  · rw [if_neg e, getD_set_other _ _ _ _ (fun h => e h.symm)]

theorem upN_inj {a b : Nd} (h : upN a = upN b) : a = b := by
  obtain ⟨a1, a2⟩ := a
  obtain ⟨b1, b2⟩ := b
  unfold upN at h
  injection h with h1 h2
  have e1 : a1 = b1 := upL_inj.1 h1
  have e2 : a2 = b2 := upL_inj.1 h2
  rw [e1, e2]

/-- the day's nodes, put in order by the sort -/
theorem dayD_sorted {P : List Nd} {b : Nat → Nat} {d : Nat} {l D' : List Nat} {M : List Nd} {pl0 : Nat → Nat} (hp : D'.Perm l) (hm : ∀ k, k ∈ l ↔ k < P.length ∧ b k = d) (hn : l.Nodup) (ha : D'.Pairwise (fun a b => ltNd (M.getD b ([], [])) (M.getD a ([], [])) = false))
    (hM : ∀ x ∈ l, M.getD x ([], []) = movd pl0 (P.getD x ([], []))) : DayD P b d D' pl0 :=
  ⟨fun k => by rw [hp.mem_iff]; exact hm k, hp.nodup_iff.2 hn, ha.imp_of_mem (fun {x y} hx hy h => by rw [← hM x (hp.mem_iff.1 hx), ← hM y (hp.mem_iff.1 hy)]; exact h)⟩

theorem day_new' {P : List Nd} {b : Nat → Nat} {d j x k : Nat} {D' Q idx : List Nat} {M : List Nd} {pl0 : Nat → Nat} (hb : Births P b) (hu : Under P) (hD : DayD P b d D' pl0) (h : DayIs P b d D' pl0 j (idx.map (fun i => M.getD i ([], []))) (fun y => Q.getD y 0)) (hi : D'[j]? = some x)
    (hM : M.getD x ([], []) = movd pl0 (P.getD x ([], []))) (hq : x < Q.length) (hk : k = idx.length) (hl : (idx.map (fun i => M.getD i ([], []))).getLast? ≠ some (M.getD x ([], []))) : DayIs P b d D' pl0 (j + 1) ((idx ++ [x]).map (fun i => M.getD i ([], []))) (fun y => (Q.set x k).getD y 0) := by
  rw [hM] at hl
  have := day_new hb hu hD h hi hl
  rw [pl_set hq, List.map_append, List.map_singleton, hM, hk]
  rw [List.length_map] at this
  exact this

theorem day_old' {P : List Nd} {b : Nat → Nat} {d j x k : Nat} {D' Q idx : List Nat} {M : List Nd} {pl0 : Nat → Nat} (hb : Births P b) (hu : Under P) (hD : DayD P b d D' pl0) (h : DayIs P b d D' pl0 j (idx.map (fun i => M.getD i ([], []))) (fun y => Q.getD y 0)) (hi : D'[j]? = some x)
    (hM : M.getD x ([], []) = movd pl0 (P.getD x ([], []))) (hq : x < Q.length) (hk : k = idx.length) (hl : (idx.map (fun i => M.getD i ([], []))).getLast? = some (M.getD x ([], []))) : DayIs P b d D' pl0 (j + 1) (idx.map (fun i => M.getD i ([], []))) (fun y => (Q.set x (k - 1)).getD y 0) := by
  rw [hM] at hl
  have := day_old hb hu hD h hi hl
  rw [pl_set hq, hk]
  rw [List.length_map] at this
  exact this

theorem in5 {w w' : World} {b1 b2 b3 b4 b5 o1 o2 o3 o4 o5 : Nat} {v1 v2 v3 v4 v5 : Value} (h : w.cell? ⟨b1, o1, none⟩ = some v1 ∧ w.cell? ⟨b2, o2, none⟩ = some v2 ∧ w.cell? ⟨b3, o3, none⟩ = some v3 ∧ w.cell? ⟨b4, o4, none⟩ = some v4 ∧ w.cell? ⟨b5, o5, none⟩ = some v5) (hB : Below w.heap.size w w') :
    w'.cell? ⟨b1, o1, none⟩ = some v1 ∧ w'.cell? ⟨b2, o2, none⟩ = some v2 ∧ w'.cell? ⟨b3, o3, none⟩ = some v3 ∧ w'.cell? ⟨b4, o4, none⟩ = some v4 ∧ w'.cell? ⟨b5, o5, none⟩ = some v5 :=
  ⟨(bcell hB _ _ (block_of_cell h.1)).trans h.1, (bcell hB _ _ (block_of_cell h.2.1)).trans h.2.1, (bcell hB _ _ (block_of_cell h.2.2.1)).trans h.2.2.1, (bcell hB _ _ (block_of_cell h.2.2.2.1)).trans h.2.2.2.1, (bcell hB _ _ (block_of_cell h.2.2.2.2)).trans h.2.2.2.2⟩

/-- no day is empty -/
theorem born_ahead {P : List Nd} {b : Nat → Nat} (hb : Births P b) (hu : Under P) {k : Nat} (hk : k < P.length) : b k = 0 ∨ ∃ x, x < k ∧ b x + 1 = b k := by
  obtain ⟨nd, hnd⟩ := lt_get hk
  have h1 := hb k nd hnd
  have h2 := foldl_max_is b (nd.1 ++ nd.2) 0
  unfold lastOf at h1
  rcases h2 with h2 | ⟨x, hx, h2⟩
  · left; rw [h1, h2]
  · right
    refine ⟨x, hu k nd hnd x (by simpa using hx), ?_⟩
    rw [h1, h2]

theorem daysL_some {P : List Nd} {b : Nat → Nat} (hb : Births P b) (hu : Under P) : ∀ k, k ≤ P.length → ∀ d, d < (daysL b k).length → ∃ i, i < k ∧ b i = d
  | 0, _, d, h => by simp [daysL] at h
  | k + 1, hk, d, h => by
    have ih := daysL_some hb hu k (by omega)
    simp only [daysL, List.length_set, List.length_append, List.length_replicate] at h
    rcases Nat.lt_or_ge d (daysL b k).length with h1 | h1
    · obtain ⟨i, hi, e⟩ := ih d h1
      exact ⟨i, by omega, e⟩
    · rcases Nat.lt_trichotomy d (b k) with h2 | h2 | h2
      · rcases born_ahead hb hu (k := k) (by omega) with e | ⟨x, hx, e⟩
        · omega
        · have := daysL_lt b k x hx
          omega
      · exact ⟨k, by omega, h2.symm⟩
      · omega

/-- a day's places -/
theorem daysL_day {P : List Nd} {b : Nat → Nat} (hb : Births P b) (hu : Under P) {d : Nat} {l : List Nat} (h : (daysL b P.length)[d]? = some l) : l ≠ [] ∧ l.Nodup ∧ ∀ k, k ∈ l ↔ k < P.length ∧ b k = d := by
  have hl := get_lt h
  have h2 := daysL_get b P.length d hl
  rw [h] at h2
  injection h2 with h2
  subst h2
  refine ⟨?_, List.nodup_range.filter _, fun k => by simp⟩
  obtain ⟨i, hi, e⟩ := daysL_some hb hu P.length (Nat.le_refl _) d hl
  exact List.ne_nil_of_mem (a := i) (by simp [hi, e])
end

end Go.Proofs.Ytanjanckkgbnbaa
