/- impl.partOf: the part of a form at a place. -/
import Derived.Test.YtlhpkoaegldjdaaFmPart
import Derived.Test.YtlhpkoaegldjdaaFmLast
import Derived.Test.YtlhpkoaegldjdaaFmReach
import Derived.Test.YtlhpkoaegldjdaaFmMark
import Derived.Test.YtlhpkoaegldjdaaFmSnoc
import Derived.Test.YtlhpkoaegldjdaaFmToOwn
import Derived.Test.YtlhpkoaegldjdaaFmFormP
namespace Go.Proofs.Ytlhpkoaegldjdaa
open Go.RowKit
set_option linter.unusedVariables false
set_option linter.unusedSimpArgs false

/-- what movedOptions makes -/
def MovedC : Prop := ∀ (vo vp : Value) (L Q : List Nat) (w : World) (lo hi lo' hi' : Nat), hi ≤ w.heap.size → hi' ≤ w.heap.size → IntsZ w lo hi vo (upL L) → IntsZ w lo' hi' vp (upL Q) → (∀ x ∈ L, x < Q.length) → L.length ≤ 1000 → Q.length ≤ 1000 →
  Calls Try.prog 108 #[vo, vp] w fun e w' => ∃ g c, e = .returned (.slice (some ⟨g, 0, none⟩) (sortd (L.map (fun x => Q.getD x 0))).length c) ∧ OwnI w' w.heap.size (.slice (some ⟨g, 0, none⟩) (sortd (L.map (fun x => Q.getD x 0))).length c) (upL (sortd (L.map (fun x => Q.getD x 0)))) ∧ Below w.heap.size w w'

/-- what partOf makes -/
def partI (f : List Nd) (top : Nat) : List Nd := (partN f (fun k => (reachF f top).getD k false) top (top + 1)).2

/-- a box that may be written -/
def BoxAt (w : World) (b : Nat) (v : Value) : Prop := w.cell? ⟨b, 0, none⟩ = some v ∧ w.frozen? ⟨b, 0, none⟩ = false

theorem BoxAt.block {w w' : World} {b : Nat} {v : Value} (h : BoxAt w b v) (hb : w'.heap[b]? = w.heap[b]?) : BoxAt w' b v :=
  ⟨(World.cell?_of_block (a := ⟨b, 0, none⟩) hb).trans h.1, (World.frozen?_of_block (a := ⟨b, 0, none⟩) hb).trans h.2⟩
theorem BoxAt.below {w w' : World} {b : Nat} {v : Value} (h : BoxAt w b v) (hb : Below w.heap.size w w') : BoxAt w' b v := h.block (hb.block b (block_of_cell h.1))
theorem BoxAt.grown {w w' : World} {b : Nat} {v : Value} {row : Option Nat} (h : BoxAt w b v) (hg : w.grownBy w' row) (hne : some b ≠ row) : BoxAt w' b v := h.block (hg.block b (block_of_cell h.1) hne)

theorem SetN.setCell {w : World} {b n : Nat} {S : Nat → Bool} (h : SetN w b n S) {p : Addr} (hp : b ≠ p.block) (u : Value) : SetN (w.setCell p u) b n S := by
  obtain ⟨D, h1, h2⟩ := h
  exact ⟨D, h1.setCell hp u, h2⟩
theorem BoxAt.only {w w' : World} {b : Nat} {v : Value} {F : Nat → Prop} (h : BoxAt w b v) (ho : Only w w' F) (hn : ¬ F b) : BoxAt w' b v := ⟨(ho.cell (block_of_cell h.1) hn).trans h.1, (ho.frozen (block_of_cell h.1) hn).trans h.2⟩

/-- the node is put in, its lists being new -/
theorem part_push {w5 wa wb w7 : World} {B2 P len cn g1 c1 g2 c2 n1 n2 d0 : Nat} {a : Option Addr} {vs : List (Value × Value)} {N : List Nz} {l1 l2 : List Int} {v7 : Value} (hF : OwnF w5 B2 (.slice a len cn) vs N) (hB : B2 ≤ w5.heap.size) (hP : P < B2)
    (hd : w5.heap.size ≤ d0) (ho1 : OwnI wa d0 (.slice (some ⟨g1, 0, none⟩) n1 c1) l1) (HBa : Below w5.heap.size w5 wa) (ho2 : OwnI wb wa.heap.size (.slice (some ⟨g2, 0, none⟩) n2 c2) l2) (hbb : Below wa.heap.size wa wb)
    (hown7 : w7.ownsRow B2 70 2 v7 (N.length + 1) (rowN2 vs ++ [.slice (some ⟨g1, 0, none⟩) n1 c1, .slice (some ⟨g2, 0, none⟩) n2 c2]))
    (hgrow7 : (wb.alloc (.cells #[.slice (some ⟨g1, 0, none⟩) n1 c1, .slice (some ⟨g2, 0, none⟩) n2 c2] 70)).grownBy w7 (Value.slice a len cn).ownBlock)
    (hat7 : v7.ownBlock = (Value.slice a len cn).ownBlock ∨ v7.ownBlock = some (wb.alloc (.cells #[.slice (some ⟨g1, 0, none⟩) n1 c1, .slice (some ⟨g2, 0, none⟩) n2 c2] 70)).heap.size) :
    Hid (OwnF (w7.setCell ⟨P, 0, none⟩ v7) B2 v7 (vs ++ [(.slice (some ⟨g1, 0, none⟩) n1 c1, .slice (some ⟨g2, 0, none⟩) n2 c2)]) (N ++ [(l1, l2)])) ∧ Only w5 w7 (fun b => B2 ≤ b) ∧ w5.heap.size ≤ w7.heap.size := by
  have HBb : Below w5.heap.size w5 wb := HBa.trans (hbb.mono HBa.size)
  have hal : Below wb.heap.size wb (wb.alloc (.cells #[.slice (some ⟨g1, 0, none⟩) n1 c1, .slice (some ⟨g2, 0, none⟩) n2 c2] 70)) := (Below.refl _ _).alloc (Nat.le_refl _) _
  have HBc := HBb.trans (hal.mono HBb.size)
  have hFc := hF.below HBc
  have t1 := ho1.lt g1 rfl
  have t2 := ho2.lt g2 rfl
  have hvb : ∀ g, (Value.slice a len cn).ownBlock = some g → g < w5.heap.size := fun g e => (World.ownsRow.lt hF.nodes g e).2
  have hlb : ∀ (i : Nat) (q : Value × Value), vs[i]? = some q → (∀ g, q.1.ownBlock = some g → g < w5.heap.size) ∧ (∀ g, q.2.ownBlock = some g → g < w5.heap.size) := fun i q hq => by
    obtain ⟨n0, hn0⟩ := lt_get (l := N) (i := i) (by rw [← hF.len]; exact get_lt hq)
    obtain ⟨i1, i2⟩ := hF.list i n0 q hn0 hq
    exact ⟨fun g e => (i1.lt g e).2, fun g e => (i2.lt g e).2⟩
  have o1 : (Value.slice (some ⟨g1, 0, none⟩) n1 c1).ownBlock = some g1 := rfl
  have o2 : (Value.slice (some ⟨g2, 0, none⟩) n2 c2).ownBlock = some g2 := rfl
  have hs := hFc.snoc (p := (.slice (some ⟨g1, 0, none⟩) n1 c1, .slice (some ⟨g2, 0, none⟩) n2 c2)) (nd := (l1, l2)) hgrow7 hown7 hat7 (((ho1.below hbb).below hal).mono (by omega)) ((ho2.below hal).mono (by have := HBa.size; omega))
    (fun g e1 e2 => by rw [o1] at e1; rw [o2] at e2; injection e1 with e1; injection e2 with e2; omega)
    (fun g e1 e2 => by rw [o1] at e2; injection e2 with e2; have := hvb g e1; omega)
    (fun g e1 e2 => by rw [o2] at e2; injection e2 with e2; have := hvb g e1; have := HBa.size; omega)
    (fun i q hq => ⟨⟨fun g e1 e2 => by rw [o1] at e1; injection e1 with e1; have := (hlb i q hq).1 g e2; omega, fun g e1 e2 => by rw [o1] at e1; injection e1 with e1; have := (hlb i q hq).2 g e2; omega⟩,
      ⟨fun g e1 e2 => by rw [o2] at e1; injection e1 with e1; have := (hlb i q hq).1 g e2; have := HBa.size; omega, fun g e1 e2 => by rw [o2] at e1; injection e1 with e1; have := (hlb i q hq).2 g e2; have := HBa.size; omega⟩⟩)
  have ho : Only w5 w7 (fun b => B2 ≤ b) := (Only.of_below (F := fun b => B2 ≤ b) HBc).trans (Only.of_grown (F := fun b => B2 ≤ b) hgrow7 (fun g e => (World.ownsRow.lt hF.nodes g e).1)) (fun _ _ h => h)
  exact ⟨Lib.hid (hs.setCell (by exact hP)), ho, ho.size⟩

theorem SetN.block {w w' : World} {b n : Nat} {S : Nat → Bool} (h : SetN w b n S) (hb : w'.heap[b]? = w.heap[b]?) : SetN w' b n S := by
  obtain ⟨D, ⟨es, clock, h1, h2⟩, h3⟩ := h
  exact ⟨D, ⟨es, clock, hb.trans h1, h2⟩, h3⟩

/-- what the next round begins with -/
theorem part_next {w w5 w7 : World} {B2 P gp len n : Nat} {v0 v7 vr : Value} {Q : List Int} {S : Nat → Bool} {sb rb : Nat} (o57 : Only w5 w7 (fun b => B2 ≤ b)) (hs52 : B2 ≤ w5.heap.size) (hP : P < B2) (hY : BoxAt w5 P v0)
    (hQ : OwnI w5 w.heap.size (.slice (some ⟨gp, 0, none⟩) len len) Q) (hgp : gp < B2) (hgP : gp ≠ P) (hS : SetN w5 sb n S) (hsb : sb < B2) (hsP : sb ≠ P) (hX : BoxAt w5 rb vr) (hrb : rb < B2) (hrP : rb ≠ P) (hB : Below w.heap.size w w5) (hwP : w.heap.size ≤ P) :
    BoxAt (w7.setCell ⟨P, 0, none⟩ v7) P v7 ∧ Hid (OwnI (w7.setCell ⟨P, 0, none⟩ v7) w.heap.size (.slice (some ⟨gp, 0, none⟩) len len) Q) ∧ Hid (SetN (w7.setCell ⟨P, 0, none⟩ v7) sb n S) ∧ Hid (Below w.heap.size w (w7.setCell ⟨P, 0, none⟩ v7)) ∧ B2 ≤ (w7.setCell ⟨P, 0, none⟩ v7).heap.size ∧ BoxAt (w7.setCell ⟨P, 0, none⟩ v7) rb vr := by
  have y7 := hY.only o57 (by omega)
  have x7 := hX.only o57 (by omega)
  have hz := o57.size
  have os : Only w7 (w7.setCell ⟨P, 0, none⟩ v7) (fun b => b = P) := Only.of_set _ rfl
  have hz0 := hB.size
  refine ⟨⟨World.cell?_setCell_same _ _ _ y7.1, ?_⟩, Lib.hid ?_, Lib.hid ?_, Lib.hid ?_, ?_, x7.only os hrP⟩
  · rw [World.frozen?_setCell]
    exact y7.2
  · exact (hQ.only o57 (fun g e h => by have := own_eqp e; omega)).setCell (fun e => hgP (own_eqp e))
  · exact (hS.block (o57.block sb (by omega) (by omega))).setCell (by exact hsP) _
  · exact (hB.trans (o57.below (by omega) (fun g h => by omega))).setCell (by exact hwP) _
  · simp
    omega

set_option maxRecDepth 100000 in
set_option maxHeartbeats 2000000 in
theorem partOf_calls (CM : MovedC) (v : Value) (f : List Nd) (top : Nat) (w : World) (lo hi : Nat) (hh : hi ≤ w.heap.size) (hv : NodesZ w lo hi v (f.map upN)) (hu : Under f) (ht : top < f.length) (hl : f.length ≤ 120) (hn : ∀ nd ∈ f, nd.1.length ≤ 24 ∧ nd.2.length ≤ 24) :
    Calls Try.prog 70 #[v, .int .i64 top] w fun e w' => ∃ a c vs, e = .returned (.agg #[.slice a (partI f top).length c]) ∧ OwnF w' w.heap.size (.slice a (partI f top).length c) vs ((partI f top).map upN) ∧ Below w.heap.size w w' := by
  obtain ⟨i0, hi0, hz0, hz1, hz2⟩ := info_parts infoIntA
  have HV := Lib.hid hv
  have HU := Lib.hid hu
  have HN := Lib.hid hn
  obtain ⟨ao, c, rfl, hcap, _⟩ := hv
  rw [List.length_map] at HV hcap ⊢
  have hcc : (top : Int) + 1 ≤ c := by omega
  clear hu hn
  have hmm := @run_makeMap Try.prog
  have C0 : Hid (Calls Try.prog 93 #[.map (some (w.heap.size + 1)), .slice (some ⟨w.heap.size + 1 + 1, 0, none⟩) 1 1] (((w.alloc (.cells #[.slice none 0 0] 26)).alloc (.map #[] 0)).alloc (.cells #[.int .i64 (top : Int)] 3)) fun e w' => e = .returned (.tuple #[]) ∧ SetN w' (w.heap.size + 1) (0 + [top].length) (fun y => decide (y ∈ [top]) || false) ∧ (((w.alloc (.cells #[.slice none 0 0] 26)).alloc (.map #[] 0)).alloc (.cells #[.int .i64 (top : Int)] 3)).grownBy w' (some (w.heap.size + 1))) := Lib.hid (by
    have e1 : (w.alloc (.cells #[.slice none 0 0] 26)).heap.size = w.heap.size + 1 := by simp
    have h := ints_one ((w.alloc (.cells #[.slice none 0 0] 26)).alloc (.map #[] 0)) top 3
    have hs : SetN ((w.alloc (.cells #[.slice none 0 0] 26)).alloc (.map #[] 0)) (w.heap.size + 1) 0 (fun _ => false) := by
      rw [← e1]
      exact ⟨.map [], World.ownsMap_made _ _ _ _, fun x => by simp [Maps.has], fun kl hk => by simp [Maps.has] at hk⟩
    rw [show ((w.alloc (.cells #[.slice none 0 0] 26)).alloc (.map #[] 0)).heap.size = w.heap.size + 1 + 1 from by simp] at h
    exact setAdd_calls (w.heap.size + 1) 0 (fun _ => false) _ [top] _ _ _ (hs.kept (World.grownBy_alloc _ _ none) (by simp)) h (fun x hx => by simp at hx; omega) (by simp))
  have hbx0 : BoxAt (((w.alloc (.cells #[.slice none 0 0] 26)).alloc (.map #[] 0)).alloc (.cells #[.int .i64 (top : Int)] 3)) w.heap.size (.slice none 0 0) := ⟨by go_simp, by go_simp⟩
  go_enter Try.func70, Try.ntmps70
  go_wp2_with fail
  refine C0.out.mono ?_
  rintro e w1 ⟨rfl, hs, hg⟩
  have hbx1 := hbx0.grown hg (by simp)
  have HS1 : Hid (SetN w1 (w.heap.size + 1) 1 (fun y => ((List.replicate (top + 1) false).set top true).getD y false)) := Lib.hid (setN_congr hs (fun x => by
    by_cases e : x = top
    · subst e; simp [List.getD_eq_getElem?_getD]
    · rw [List.getD_eq_getElem?_getD, List.getElem?_set_ne (Ne.symm e)]
      rcases Nat.lt_or_ge x (top + 1) with h | h
      · simp [e, h]
      · simp [e, h]))
  have HB1 : Hid (Below w.heap.size w w1) := Lib.hid (((((Below.refl _ _).alloc (Nat.le_refl _) _).alloc (by simp) _).alloc (by simp; omega) _).grown hg (by simp; omega) (fun q hq => by injection hq with hq; omega))
  have HRE : Hid (reachD f (top + 1) ((List.replicate (top + 1) false).set top true) = reachF f top) := Lib.hid rfl
  clear hs hg C0 hmm hbx0
  go_wp2
  go_loopw [6] (fun i wr => ∃ (m n : Nat) (o : List Bool), m ≤ top + 1 ∧ i = .int .i64 ((m : Int) - 1) ∧ o.length = top + 1 ∧ n + 48 * m ≤ 1 + 48 * (top + 1) ∧ Hid (reachD f m o = reachF f top) ∧ Hid (SetN wr (w.heap.size + 1) n (fun y => o.getD y false)) ∧ Hid (Below w.heap.size w wr) ∧ BoxAt wr w.heap.size (.slice none 0 0)) (fun i _ => (intOf i + 1).toNat)
  case atStart => exact ⟨top + 1, 1, _, Nat.le_refl _, congrArg (Value.int .i64) (by omega), by simp, Nat.le_refl _, HRE, HS1, HB1, hbx1⟩
  case round =>
    obtain ⟨m, n, o, hm, rfl, hol, hn48, hrd, hset, hb, hbx⟩ := hrel
    clear HRE HS1 HB1 hbx1
    cases m with
    | zero =>
      have R : Hid (o = reachF f top) := Lib.hid hrd.out
      have hneg : ¬ (0 : Int) ≤ ((0 : Nat) : Int) - 1 := by omega
      clear hrd
      rw [R.out] at hset
      clear R hol
      obtain ⟨W1, hW1⟩ : ∃ W, W = wr := ⟨_, rfl⟩
      subst hW1
      have hw0 : IntKind.i64.wrap ((top : Int) + 1) = (top : Int) + 1 := IntWalk.i64_in _ (by omega)
      have r0 : (0 : Int) ≤ top := by omega
      have r1 : (0 : Int) ≤ (top : Int) + 1 := by omega
      have r2 : ((top : Int) + 1).toNat = top + 1 := by omega
      have hsz1 := hb.out.size
      have hpb : (W1.alloc (.cells #[.slice none 0 0] 26)).cell? ⟨W1.heap.size, 0, none⟩ = some (.slice none 0 0) := by go_simp
      have hbA : Below W1.heap.size W1 (W1.alloc (.cells #[.slice none 0 0] 26)) := (Below.refl _ _).alloc (Nat.le_refl _) _
      go_wp2_with (at_make; refine wpList_make_full _ rfl _ _ 56 rfl w.heap.size 3 i0 (.int .i64 0) 1 Try.underlying56 hi0 hz0 hz1 _ _ _ _ (top + 1) rfl rfl (by first | rfl | (simp; done)) (by first | rfl | (simp; done)) (by rw [hz2]; omega) (by unfold maxLen; omega) (by simp; omega) ?_; intro w2 hown hg)
      have hzA : (W1.alloc (.cells #[.slice none 0 0] 26)).heap.size = W1.heap.size + 1 := by simp
      rw [hzA] at hown
      have hsz2 := hg.size
      rw [hzA] at hsz2
      have hpc2 : w2.cell? ⟨W1.heap.size, 0, none⟩ = some (.slice none 0 0) := (World.cell?_of_block (a := ⟨W1.heap.size, 0, none⟩) (hg.block W1.heap.size (by rw [hzA]; omega) (by simp))).trans hpb
      have hpf2 : w2.frozen? ⟨W1.heap.size, 0, none⟩ = false := (World.frozen?_of_block (a := ⟨W1.heap.size, 0, none⟩) (hg.block W1.heap.size (by rw [hzA]; omega) (by simp))).trans (by go_simp)
      have HB2 : Hid (Below w.heap.size w w2) := Lib.hid ((hb.out.trans (hbA.mono hsz1)).grown hg (by rw [hzA]; omega) (fun q hq => by cases hq))
      have HP2 : Hid (OwnI w2 w.heap.size (.slice (some ⟨W1.heap.size + 1, 0, none⟩) (top + 1) (top + 1)) (upL (partN f (fun k => (reachF f top).getD k false) top 0).1)) := Lib.hid (by
        have e : (madeCells (Value.int .i64 0).cells ((top + 1) * 1)).toList = (upL (List.replicate (top + 1) 0)).map (Value.int .i64) := by
          show (madeCells #[Value.int .i64 0] ((top + 1) * 1)).toList = _
          rw [Nat.mul_one, made_one]
          simp [upL]
        rw [e] at hown
        show w2.ownsRow _ _ _ _ (upL (List.replicate (top + 1) 0)).length _
        rw [upL_len, List.length_replicate]
        exact hown)
      have HS2 : Hid (SetN w2 (w.heap.size + 1) n (fun y => (reachF f top).getD y false)) := Lib.hid ((hset.out.kept (World.grownBy_alloc _ _ none) (by simp)).kept hg (by simp))
      have HF2 : Hid (OwnF w2 w2.heap.size (.slice none 0 0) [] ((partN f (fun k => (reachF f top).getD k false) top 0).2.map upN)) := Lib.hid (OwnF.nil _ _)
      have hgp := (hown.lt _ rfl).2
      have hsS := HS2.out.lt
      have hn6 : n ≤ 1 + 48 * (top + 1) := by omega
      obtain ⟨need, hneed⟩ : ∃ need : Nat → Bool, (fun k => (reachF f top).getD k false) = need := ⟨_, rfl⟩
      rw [hneed] at HP2 HF2
      have HS2 : Hid (SetN w2 (w.heap.size + 1) n need) := Lib.hid (setN_congr HS2.out (fun x => congrFun hneed x))
      have HNE := Lib.hid hneed
      have hrW := block_of_cell hbx.1
      have hbx2 : BoxAt w2 w.heap.size (.slice none 0 0) := (hbx.below hbA).grown hg (by simp)
      clear hown hg hpb hbA hset hb hbx hneed hzA hn48
      go_loopw [46] (fun i wr => ∃ (k : Nat) (a : Option Addr) (cn : Nat) (vs : List (Value × Value)), k ≤ top + 1 ∧ i = .int .i64 (k : Int) ∧ Hid (OwnF wr w2.heap.size (.slice a (partN f need top k).2.length cn) vs ((partN f need top k).2.map upN)) ∧ BoxAt wr W1.heap.size (.slice a (partN f need top k).2.length cn) ∧ Hid (OwnI wr w.heap.size (.slice (some ⟨W1.heap.size + 1, 0, none⟩) (top + 1) (top + 1)) (upL (partN f need top k).1)) ∧ Hid (SetN wr (w.heap.size + 1) n need) ∧ Hid (Below w.heap.size w wr) ∧ w2.heap.size ≤ wr.heap.size ∧ BoxAt wr w.heap.size (.slice none 0 0)) (fun i _ => top + 1 - (intOf i).toNat)
      case atStart => exact ⟨0, none, 0, [], Nat.zero_le _, rfl, HF2, ⟨hpc2, hpf2⟩, HP2, HS2, HB2, Nat.le_refl _, hbx2⟩
      case round =>
        obtain ⟨k, a, cn, vs, hk, rfl, hF, hpB, hP, hS, hbw, hsz, hbx⟩ := hrel
        clear HF2 hpc2 hpf2 HP2 HS2 HB2 hbx2
        by_cases hkt : k < top + 1
        · obtain ⟨nd, hx⟩ := lt_get (l := f) (i := k) (by omega)
          have hn24 := HN.out nd (List.mem_of_getElem? hx)
          have HX : Hid (∀ x, x ∈ nd.1 ∨ x ∈ nd.2 → x < k) := Lib.hid (fun x h => HU.out k nd hx x h)
          have C := Lib.hid (fun (W : World) (hW : Below wr.heap.size wr W) => setHas_calls (w.heap.size + 1) n k need W (hS.out.kept (grownBy_below' hW none) (by simp)) (by omega))
          obtain ⟨b, off, c', v1, v2, e1, hbh, p1, p2, i1, i2⟩ := nodes_atP (HV.out.below hbw.out hh) hx
          obtain ⟨q1, _, q3⟩ := slice_inj e1
          subst q1 q3
          obtain ⟨a1, d1, rfl, hd1⟩ := ints_lenP i1
          obtain ⟨a2, d2, rfl, hd2⟩ := ints_lenP i2
          have k0 : (0 : Int) ≤ k := by omega
          have k1 : (k : Int) < (top : Int) + 1 := by omega
          have HI1 := Lib.hid i1
          have HI2 := Lib.hid i2
          have HXX := Lib.hid hx
          clear e1 i1 i2 hx
          obtain ⟨r, hr⟩ : ∃ r, need k = r := ⟨_, rfl⟩
          rw [hr] at C
          have HRN := Lib.hid hr
          clear hr
          cases r with
          | false =>
            have HN0 := Lib.hid (partN_no f need top k HRN.out)
            go_wp2_with fail
            refine (C.out _ ((Below.refl _ _).alloc (Nat.le_refl _) _)).mono ?_
            rintro e w4 ⟨rfl, hb4⟩
            have HB : Below wr.heap.size wr w4 := Below.trans ((Below.refl _ _).alloc (Nat.le_refl _) _) (hb4.mono (by simp))
            have R1 : Hid (OwnF w4 w2.heap.size (.slice a (partN f need top (k + 1)).2.length cn) vs ((partN f need top (k + 1)).2.map upN)) := Lib.hid (by rw [HN0.out]; exact hF.out.below HB)
            have R2 : BoxAt w4 W1.heap.size (.slice a (partN f need top (k + 1)).2.length cn) := by rw [HN0.out]; exact hpB.below HB
            have R3 : Hid (OwnI w4 w.heap.size (.slice (some ⟨W1.heap.size + 1, 0, none⟩) (top + 1) (top + 1)) (upL (partN f need top (k + 1)).1)) := Lib.hid (by rw [HN0.out]; exact hP.out.below HB)
            have R4 := Lib.hid (hS.out.kept (grownBy_below' HB none) (by simp))
            have R5 := Lib.hid (hbw.out.trans (HB.mono hbw.out.size))
            have R6 := hbx.below HB
            have hz4 := HB.size
            clear hb4 HB hF hpB hP hS hbw hbx C HI1 HI2 p1 p2 HN0
            go_wp2_with fail
            go_roundw
            case rel => exact ⟨k + 1, a, cn, vs, by omega, by go_num, R1, R2, R3, R4, R5, by omega, R6⟩
            case measure => first | (simp [intOf]; done) | (simp [intOf]; omega)
          | true =>
            have HN1 := Lib.hid (partN_yes f need top k nd HRN.out HXX.out HX.out)
            have hQl := partN_alen f need top k
            have hLl := partN_llen f need top k
            generalize hQ : (partN f need top k).1 = Q at hP HN1 hQl
            generalize hN0 : (partN f need top k).2 = N at hF hpB HN1 hLl
            go_wp2_with fail
            refine (C.out _ ((Below.refl _ _).alloc (Nat.le_refl _) _)).mono ?_
            rintro e w4 ⟨rfl, hb4⟩
            have HB : Below wr.heap.size wr w4 := Below.trans ((Below.refl _ _).alloc (Nat.le_refl _) _) (hb4.mono (by simp))
            have n1 : w4.cell? ⟨wr.heap.size, 0, none⟩ = some (.slice a1 nd.1.length d1) := (bcell hb4 _ _ (by simp)).trans (by go_simp)
            have n2 : w4.cell? ⟨wr.heap.size, 1, none⟩ = some (.slice a2 nd.2.length d2) := (bcell hb4 _ _ (by simp)).trans (by go_simp)
            have hwl := block_of_cell n1
            have F4 := hF.out.below HB
            have P4 := hP.out.below HB
            have S4 := hS.out.kept (grownBy_below' HB none) (by simp)
            have B4 := hbw.out.trans (HB.mono hbw.out.size)
            have X4 := hbx.below HB
            have Y4 := hpB.below HB
            obtain ⟨qv, hqv⟩ := lt_get (l := upL Q) (i := k) (by rw [upL_len]; omega)
            obtain ⟨qc, qf⟩ := P4.at_ hqv
            have PT := P4.put (x := k) (v := (N.length : Int))
            rw [upL_set] at PT
            have O5 : Only w4 (w4.setCell ⟨W1.heap.size + 1, k, none⟩ (.int .i64 (N.length : Int))) (fun b => b = W1.heap.size + 1) := PT.2.mono (fun i _ e => (own_eqp e).symm)
            have F5 := Lib.hid (F4.only O5 (fun g h1 h2 e => by omega))
            have P5 := Lib.hid PT.1
            have S5 := Lib.hid (S4.setCell (p := ⟨W1.heap.size + 1, k, none⟩) (by show w.heap.size + 1 ≠ W1.heap.size + 1; have := S4.other qc; omega) (.int .i64 (N.length : Int)))
            have hz4 := HB.size
            have B45 : Below w.heap.size w4 (w4.setCell ⟨W1.heap.size + 1, k, none⟩ (.int .i64 (N.length : Int))) := O5.below (by omega) (fun g e => by omega)
            have B5 := Lib.hid (B4.trans B45)
            have X5 := X4.only O5 (by omega)
            have Y5 := Y4.only O5 (by omega)
            have m1 := (O5.cell (o := 0) hwl (by omega)).trans n1
            have m2 := (O5.cell (o := 1) hwl (by omega)).trans n2
            have J1 := Lib.hid ((HI1.out.below HB (by have := hbw.out.size; omega)).below B45 hh)
            have J2 := Lib.hid ((HI2.out.below HB (by have := hbw.out.size; omega)).below B45 hh)
            have hz5 : (w4.setCell ⟨W1.heap.size + 1, k, none⟩ (.int .i64 (N.length : Int))).heap.size = w4.heap.size := by simp
            obtain ⟨pc4, pf4⟩ := Y4
            clear hb4 HB hF hpB hP hS hbw hbx C HI1 HI2 p1 p2 F4 P4 S4 B4 X4 PT O5 B45
            go_upto_region 16 with fail
            generalize (w4.setCell ⟨W1.heap.size + 1, k, none⟩ (.int .i64 (N.length : Int))) = w5 at F5 P5 S5 B5 X5 Y5 m1 m2 J1 J2 hz5 ⊢
            obtain ⟨pc5, pf5⟩ := Y5
            have hpl := block_of_cell pc5
            have hwl5 := block_of_cell m1
            have hs52 : w2.heap.size ≤ w5.heap.size := by omega
            have hsP5 : w.heap.size + 1 ≠ W1.heap.size := fun e => S5.out.other pc5 e.symm
            have hrP5 : w.heap.size ≠ W1.heap.size := fun e => by omega
            have PI := Lib.hid P5.out.ints
            have CMa := Lib.hid fun (W : World) (hW : Below w5.heap.size w5 W) => CM (.slice a1 nd.1.length d1) (.slice (some ⟨W1.heap.size + 1, 0, none⟩) (top + 1) (top + 1)) nd.1 (Q.set k N.length) W lo hi w.heap.size w5.heap.size (by have := hW.size; have := B5.out.size; omega) hW.size (J1.out.below hW (by have := B5.out.size; omega)) (PI.out.below hW (Nat.le_refl _)) (fun x hx => by rw [List.length_set]; have := HX.out x (Or.inl hx); omega) (by omega) (by rw [List.length_set]; omega)
            have CMb := Lib.hid fun (W : World) (hW : Below w5.heap.size w5 W) => CM (.slice a2 nd.2.length d2) (.slice (some ⟨W1.heap.size + 1, 0, none⟩) (top + 1) (top + 1)) nd.2 (Q.set k N.length) W lo hi w.heap.size w5.heap.size (by have := hW.size; have := B5.out.size; omega) hW.size (J2.out.below hW (by have := B5.out.size; omega)) (PI.out.below hW (Nat.le_refl _)) (fun x hx => by rw [List.length_set]; have := HX.out x (Or.inr hx); omega) (by omega) (by rw [List.length_set]; omega)
            have HMV : Hid (∀ L1 L2, sortd (nd.1.map (fun x => (Q.set k N.length).getD x 0)) = L1 → sortd (nd.2.map (fun x => (Q.set k N.length).getD x 0)) = L2 → (partN f need top (k + 1)).2 = N ++ [(L1, L2)]) := Lib.hid (fun L1 L2 e1 e2 => by rw [HN1.out.2]; unfold movd; rw [← e1, ← e2])
            have HQ1 : Hid ((partN f need top (k + 1)).1 = Q.set k N.length) := Lib.hid HN1.out.1
            obtain ⟨L1, hL1⟩ : ∃ L, sortd (nd.1.map (fun x => (Q.set k N.length).getD x 0)) = L := ⟨_, rfl⟩
            obtain ⟨L2, hL2⟩ : ∃ L, sortd (nd.2.map (fun x => (Q.set k N.length).getD x 0)) = L := ⟨_, rfl⟩
            have HM2 := Lib.hid (HMV.out L1 L2 hL1 hL2)
            rw [hL1] at CMa
            rw [hL2] at CMb
            have hbd : Below w5.heap.size w5 w5.drew := below_drewN (Below.refl _ _) 1
            have hNl : N.length ≤ 200 := by omega
            have hNu : (N.map upN).length = N.length := by simp
            clear HN1 HMV hL1 hL2 hQ hN0 qc qf hqv n1 n2 hwl pc4 pf4 hz5 J1 J2 PI
            have hS0 : w5.drew.cell? ⟨wr.heap.size, 0, none⟩ = some (.slice a1 nd.1.length d1) ∧ w5.drew.cell? ⟨wr.heap.size, 1, none⟩ = some (.slice a2 nd.2.length d2) := ⟨m1, m2⟩
            have pd5 : w5.drew.cell? ⟨W1.heap.size, 0, none⟩ = some (.slice a N.length cn) := pc5
            go_region_law (first
              | (refine step_app_nd_at rfl _ _ rfl ((F5.out.below HBb).below ((Below.refl _ _).alloc (Nat.le_refl _) _)).nodes rfl (src_nd (B := wb.heap.size) (v1 := .slice (some ⟨g1, 0, none⟩) L1.length c1) (v2 := .slice (some ⟨g2, 0, none⟩) L2.length c2) (by go_simp) (by go_simp) rfl rfl) rfl (by rw [hNu]; omega) (by have := HBc.size; omega) ?_; intro v7 w7 hown7 hgrow7 hat7; obtain ⟨g7, c7, rfl, _, _⟩ := hown7.form (by omega); obtain ⟨R1, o57, hz57⟩ := part_push (P := W1.heap.size) F5.out hs52 (by omega) (Nat.le_refl _) ho1 HBa ho2 hbb hown7 hgrow7 hat7; have p7c := (o57.cell (o := 0) hpl (by omega)).trans pc5; have p7f := (o57.frozen (o := 0) hpl (by omega)).trans pf5)
              | (go_simp; go_at_call 108; (with_reducible refine (CMa.out _ hbd).mono ?_); rintro e wa ⟨g1, c1, rfl, ho1, hba⟩; have HBa : Below w5.heap.size w5 wa := hbd.trans (hba.mono (by simp)); have pda := (bcell HBa _ _ hpl).trans pc5; have ma1 := (bcell HBa _ _ hwl5).trans m1; have ma2 := (bcell HBa _ _ hwl5).trans m2)
              | (go_simp; go_at_call 108; (with_reducible refine (CMb.out wa HBa).mono ?_); rintro e wb ⟨g2, c2, rfl, ho2, hbb⟩; have HBb : Below w5.heap.size w5 wb := HBa.trans (hbb.mono HBa.size); have pdb := (bcell HBb _ _ hpl).trans pc5; have HBc : Below w5.heap.size w5 (wb.alloc (.cells #[.slice (some ⟨g1, 0, none⟩) L1.length c1, .slice (some ⟨g2, 0, none⟩) L2.length c2] 70)) := HBb.trans (((Below.refl _ _).alloc (Nat.le_refl _) _).mono HBb.size); have pdc := (bcell HBc _ _ hpl).trans pc5))
            all_goals
              obtain ⟨N1, N2, N3, N4, N5, N6⟩ := part_next (v7 := .slice (some ⟨g7, 0, none⟩) ((N.map upN).length + 1) c7) o57 hs52 (by omega) ⟨pc5, pf5⟩ P5.out hgp (by omega) S5.out hsS hsP5 X5 (by omega) hrP5 B5.out hsz1
              rw [hNu] at R1 N1 N2 N3 N4 N5 N6
              have hRL : (N ++ [(L1, L2)]).length = N.length + 1 := by simp
              have R1' : Hid (OwnF (w7.setCell ⟨W1.heap.size, 0, none⟩ (.slice (some ⟨g7, 0, none⟩) (N.length + 1) c7)) w2.heap.size (.slice (some ⟨g7, 0, none⟩) (partN f need top (k + 1)).2.length c7) (vs ++ [(.slice (some ⟨g1, 0, none⟩) L1.length c1, .slice (some ⟨g2, 0, none⟩) L2.length c2)]) ((partN f need top (k + 1)).2.map upN)) := Lib.hid (by
                rw [HM2.out, hRL, List.map_append]
                exact R1.out)
              have N1' : BoxAt (w7.setCell ⟨W1.heap.size, 0, none⟩ (.slice (some ⟨g7, 0, none⟩) (N.length + 1) c7)) W1.heap.size (.slice (some ⟨g7, 0, none⟩) (partN f need top (k + 1)).2.length c7) := by
                rw [HM2.out, hRL]
                exact N1
              rw [← HQ1.out] at N2
              clear R1 N1 hown7 hgrow7 hat7 o57 p7c p7f pdc HBc pdb HBb hbb ho2 HBa hba ho1 pda ma1 ma2 CMa CMb F5 P5 S5 B5 X5 pc5 pf5 m1 m2 hS0 pd5 hbd HX
              go_wp2_with fail
              go_roundw
              case rel => exact ⟨k + 1, some ⟨g7, 0, none⟩, c7, _, by omega, by go_num, R1', N1', N2, N3, N4, N5, N6⟩
              case measure => first | (simp [intOf]; done) | (simp [intOf]; omega)
        · have hke : k = top + 1 := by omega
          subst hke
          obtain ⟨bx1, bx2⟩ := hbx
          obtain ⟨hpc, hpf⟩ := hpB
          obtain ⟨N2, hN2⟩ : ∃ N2, (partN f need top (top + 1)).2 = N2 := ⟨_, rfl⟩
          have HPI : Hid (partI f top = N2) := Lib.hid (by unfold partI; rw [HNE.out]; exact hN2)
          rw [hN2] at hF hpc
          have hFr : Hid (OwnF (wr.setCell ⟨w.heap.size, 0, none⟩ (.slice a N2.length cn)) w.heap.size (.slice a N2.length cn) vs (N2.map upN)) := Lib.hid ((hF.out.setCell (by show w.heap.size < w2.heap.size; omega)).mono (by omega))
          have hBr : Hid (Below w.heap.size w (wr.setCell ⟨w.heap.size, 0, none⟩ (.slice a N2.length cn))) := Lib.hid (hbw.out.setCell (Nat.le_refl _) _)
          have hcr := World.cell?_setCell_same wr ⟨w.heap.size, 0, none⟩ (.slice a N2.length cn) bx1
          clear hF hP hS hbw hN2
          go_wp2_with fail
          refine bodyPost_ret (v := .agg #[.slice a N2.length cn]) (by simp [results, Try.results70, go_sem, hcr]) rfl ?_
          rw [HPI.out]
          exact ⟨_, _, rfl, ⟨vs, hFr.out⟩, hBr.out⟩
    | succ m =>
      have hcast : (((m + 1 : Nat) : Int) - 1) = (m : Int) := by omega
      rw [hcast]
      obtain ⟨nd, hx⟩ := lt_get (l := f) (i := m) (by omega)
      have hn24 := HN.out nd (List.mem_of_getElem? hx)
      have HX : Hid (∀ x, x ∈ nd.1 ∨ x ∈ nd.2 → x < m) := Lib.hid (fun x h => HU.out m nd hx x h)
      have HD : Hid (reachD f m (if o.getD m false then markAll (markAll o nd.1) nd.2 else o) = reachF f top) := Lib.hid (by
        have h := hrd.out
        unfold reachD at h
        rw [show f.getD m ([], []) = nd from by rw [List.getD_eq_getElem?_getD, hx]; rfl] at h
        exact h)
      have C := Lib.hid (setHas_calls (w.heap.size + 1) n m _ wr hset.out (by omega))
      have k0 : (0 : Int) ≤ m := by omega
      have k1 : (m : Int) < f.length := by omega
      clear hrd hcast
      obtain ⟨r, hr⟩ : ∃ r, o.getD m false = r := ⟨_, rfl⟩
      rw [hr] at C HD
      clear hr
      cases r with
      | false =>
        have HD2 : Hid (reachD f m o = reachF f top) := Lib.hid (by simpa using HD.out)
        clear HD
        go_wp2_with fail
        refine C.out.mono ?_
        rintro e w2 ⟨rfl, hb2⟩
        have S2 := Lib.hid (hset.out.kept (grownBy_below' hb2 none) (by simp))
        have B2 := Lib.hid (hb.out.trans (hb2.mono hb.out.size))
        have bx2 := hbx.below hb2
        clear hb2 hset hb hbx C
        go_wp2_with fail
        go_roundw
        case rel => exact ⟨m, n, o, by omega, by go_num, hol, by omega, HD2, S2, B2, bx2⟩
        case measure => first | (simp [intOf]; done) | (simp [intOf]; omega)
      | true =>
        have HD2 : Hid (reachD f m (markAll (markAll o nd.1) nd.2) = reachF f top) := Lib.hid (by simpa using HD.out)
        clear HD
        go_wp2_with fail
        refine C.out.mono ?_
        rintro e w2 ⟨rfl, hb2⟩
        have S2 := Lib.hid (hset.out.kept (grownBy_below' hb2 none) (by simp))
        have B2 := Lib.hid (hb.out.trans (hb2.mono hb.out.size))
        have bx2 := hbx.below hb2
        obtain ⟨b, off, c', v1, v2, e1, hbh, p1, p2, i1, i2⟩ := nodes_atP (HV.out.below B2.out hh) hx
        obtain ⟨q1, _, q3⟩ := slice_inj e1
        subst q1 q3
        obtain ⟨a1, d1, rfl, hd1⟩ := ints_lenP i1
        obtain ⟨a2, d2, rfl, hd2⟩ := ints_lenP i2
        have C1 := Lib.hid (setAdd_calls (w.heap.size + 1) n _ _ nd.1 w2 lo hi S2.out i1 (fun x hx => by have := HX.out x (Or.inl hx); omega) (by omega))
        have HI2 := Lib.hid i2
        have b2z := B2.out.size
        clear hb2 hset hb hbx C e1 i1 i2
        go_wp2_with fail
        refine C1.out.mono ?_
        rintro e w3 ⟨rfl, hs3, hg3⟩
        have p2 := grown_cell hg3 (by omega) p2
        have bx3 := bx2.grown hg3 (by simp)
        have B3 : Hid (Below w.heap.size w w3) := Lib.hid (B2.out.grown hg3 B2.out.size (fun q hq => by injection hq with hq; omega))
        have hi3 : IntsZ w3 lo hi (.slice a2 nd.2.length d2) (upL nd.2) := HI2.out.keep (fun b' o h1 h2 => World.cell?_of_block (a := ⟨b', o, none⟩) (hg3.block b' (by show b' < _; omega) (by simp; omega)))
        have C2 := Lib.hid (setAdd_calls (w.heap.size + 1) _ _ _ nd.2 w3 lo hi hs3 hi3 (fun x hx => by have := HX.out x (Or.inr hx); omega) (by omega))
        clear hs3 hg3 C1 HI2 hi3 p1 bx2 B2 S2
        go_wp2_with fail
        refine C2.out.mono ?_
        rintro e w4 ⟨rfl, hs4, hg4⟩
        have bx4 := bx3.grown hg4 (by simp)
        have B4 : Hid (Below w.heap.size w w4) := Lib.hid (B3.out.grown hg4 B3.out.size (fun q hq => by injection hq with hq; omega))
        have S4 : Hid (SetN w4 (w.heap.size + 1) (n + nd.1.length + nd.2.length) (fun y => (markAll (markAll o nd.1) nd.2).getD y false)) := Lib.hid (setN_congr hs4 (fun x => by
          rw [markAll_get _ _ _ (fun y hy => by rw [markAll_len]; have := HX.out y (Or.inr hy); omega), markAll_get _ _ _ (fun y hy => by have := HX.out y (Or.inl hy); omega)]
          by_cases e1 : x ∈ nd.1 <;> by_cases e2 : x ∈ nd.2 <;> simp [e1, e2]))
        have hol4 : (markAll (markAll o nd.1) nd.2).length = top + 1 := by rw [markAll_len, markAll_len]; exact hol
        clear hs4 hg4 C2 p2 bx3 B3
        go_wp2_with fail
        go_roundw
        case rel => exact ⟨m, n + nd.1.length + nd.2.length, _, by omega, by go_num, hol4, by omega, HD2, S4, B4, bx4⟩
        case measure => first | (simp [intOf]; done) | (simp [intOf]; omega)

end Go.Proofs.Ytlhpkoaegldjdaa
