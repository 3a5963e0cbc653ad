/- Rows of rows of numbers: each list in a block that no other one has. -/
import Derived.Test.YtanjanckkgbnbaaFmPartL
import Derived.Test.YtanjanckkgbnbaaFmBorn
namespace Go.Proofs.Ytanjanckkgbnbaa
section
set_option linter.unusedVariables false
set_option linter.unusedSimpArgs false
open Go.RowKit

structure OwnR (w : World) (base : Nat) (v : Value) (vs : List Value) (ls : List (List Int)) : Prop where
  rows : w.ownsRow base 41 1 v ls.length vs
  len : vs.length = ls.length
  list : ∀ (j : Nat) (l : List Int) (p : Value), ls[j]? = some l → vs[j]? = some p → OwnI w base p l
  two : ∀ (j : Nat) (p : Value), vs[j]? = some p → Apart v p
  sep : ∀ (i j : Nat) (p q : Value), i ≠ j → vs[i]? = some p → vs[j]? = some q → Apart p q

theorem OwnR.only {w w' : World} {base : Nat} {v : Value} {vs : List Value} {ls : List (List Int)} {F : Nat → Prop} (h : OwnR w base v vs ls) (ho : Only w w' F) (hn : ∀ g, base ≤ g → g < w.heap.size → ¬ F g) : OwnR w' base v vs ls :=
  ⟨own_only h.rows ho (fun g hg => by have := World.ownsRow.lt h.rows g hg; exact hn g this.1 this.2), h.len, fun j l p h1 h2 => (h.list j l p h1 h2).only ho (fun g hg => by have := (h.list j l p h1 h2).lt g hg; exact hn g this.1 this.2), h.two, h.sep⟩
theorem OwnR.below {w w' : World} {base : Nat} {v : Value} {vs : List Value} {ls : List (List Int)} (h : OwnR w base v vs ls) (hb : Below w.heap.size w w') : OwnR w' base v vs ls := h.only (Only.of_below (F := fun _ => False) hb) (fun _ _ _ => id)
theorem OwnR.mono {w : World} {base base' : Nat} {v : Value} {vs : List Value} {ls : List (List Int)} (h : OwnR w base v vs ls) (hb : base' ≤ base) : OwnR w base' v vs ls :=
  ⟨World.ownsRow.mono h.rows hb, h.len, fun j l p h1 h2 => (h.list j l p h1 h2).mono hb, h.two, h.sep⟩
theorem OwnR.nil (w : World) (base : Nat) : OwnR w base (.slice none 0 0) [] [] :=
  ⟨World.ownsRow_nil _ _ _ _, rfl, fun j l p h => by simp at h, fun j p h => by simp at h, fun i j p q _ h => by simp at h⟩
theorem OwnR.shape {w : World} {base : Nat} {v : Value} {vs : List Value} {ls : List (List Int)} (h : OwnR w base v vs ls) : ∃ a c, v = .slice a ls.length c := own_form' h.rows
theorem OwnR.setCell {w : World} {base : Nat} {v : Value} {vs : List Value} {ls : List (List Int)} {p : Addr} {u : Value} (h : OwnR w base v vs ls) (hp : p.block < base) : OwnR (w.setCell p u) base v vs ls :=
  h.only (Only.of_set (F := fun b => b = p.block) u rfl) (fun g h1 _ e => by omega)
theorem OwnR.get {w : World} {base : Nat} {v : Value} {vs : List Value} {ls : List (List Int)} (h : OwnR w base v vs ls) {j : Nat} {l : List Int} (hj : ls[j]? = some l) :
    ∃ p g a c n, vs[j]? = some p ∧ v = .slice (some ⟨g, 0, none⟩) ls.length n ∧ w.cell? ⟨g, j, none⟩ = some p ∧ w.frozen? ⟨g, j, none⟩ = false ∧ p = .slice a l.length c ∧ OwnI w base p l ∧ g < w.heap.size ∧ base ≤ g := by
  have hl := get_lt hj
  obtain ⟨p, hp⟩ := lt_get (l := vs) (i := j) (by rw [h.len]; exact hl)
  have hi := h.list j l p hj hp
  obtain ⟨a, c, e⟩ := hi.form
  have hr := h.rows
  obtain ⟨a', n, rfl⟩ := h.shape
  rcases hr.2 with ⟨h1, h0⟩ | ⟨g, c', cs, h1, _⟩
  · omega
  · injection h1 with h1 _ _
    subst h1
    have hlt := World.ownsRow.lt hr g rfl
    refine ⟨p, g, a, c, n, hp, rfl, ?_, World.ownsRow.frozenAt hr j, e, hi, hlt.2, hlt.1⟩
    rw [World.ownsRow.cellAt hr j (by omega), hp]

/-- a nil list behind the others -/
theorem OwnR.snocNil {w w' : World} {base : Nat} {v v' : Value} {vs : List Value} {ls : List (List Int)} (h : OwnR w base v vs ls) (hg : w.grownBy w' v.ownBlock)
    (hn : w'.ownsRow base 41 1 v' (ls.length + 1) (vs ++ [.slice none 0 0])) (hat : v'.ownBlock = v.ownBlock ∨ v'.ownBlock = some w.heap.size) : OwnR w' base v' (vs ++ [.slice none 0 0]) (ls ++ [[]]) := by
  have ho : Only w w' (fun b => v.ownBlock = some b) := Only.of_grown hg (fun g e => e)
  refine ⟨by rw [List.length_append]; exact hn, by simp [h.len], fun j l p hj hp => ?_, fun j p hp => ?_, fun i j p q hne hp hq => ?_⟩
  · rcases get_snoc hj with hj1 | ⟨ej, rfl⟩
    · rcases get_snoc hp with hp1 | ⟨ep, _⟩
      · exact (h.list j l p hj1 hp1).only ho (fun g h1 h2 => h.two j p hp1 g h2 h1)
      · have := get_lt hj1; have := h.len; omega
    · rcases get_snoc hp with hp1 | ⟨_, rfl⟩
      · have := get_lt hp1; have := h.len; omega
      · exact OwnI.nil _ _
  · rcases get_snoc hp with hp1 | ⟨_, rfl⟩
    · obtain ⟨l, hl⟩ := lt_get (l := ls) (i := j) (by rw [← h.len]; exact get_lt hp1)
      intro g h1 h2
      rcases hat with e | e
      · exact h.two j p hp1 g (e ▸ h1) h2
      · rw [e] at h1
        injection h1 with h1
        have := (h.list j l p hl hp1).lt g h2
        omega
    · exact (Apart.nil _).symm
  · rcases get_snoc hp with hp1 | ⟨e1, rfl⟩
    · rcases get_snoc hq with hq1 | ⟨e2, rfl⟩
      · exact h.sep i j p q hne hp1 hq1
      · exact (Apart.nil _).symm
    · exact Apart.nil _

/-- a list is put in its place again: it has grown, or it has been sorted -/
theorem OwnR.put {w w1 : World} {base g c j : Nat} {vs : List Value} {ls : List (List Int)} {l l' : List Int} {p p' : Value} (h : OwnR w base (.slice (some ⟨g, 0, none⟩) ls.length c) vs ls) (hj : ls[j]? = some l) (hp : vs[j]? = some p)
    (ho : Only w w1 (fun b => p.ownBlock = some b)) (hl : OwnI w1 base p' l') (hat : p'.ownBlock = p.ownBlock ∨ ∃ b, p'.ownBlock = some b ∧ w.heap.size ≤ b) :
    OwnR (w1.setCell ⟨g, j, none⟩ p') base (.slice (some ⟨g, 0, none⟩) ls.length c) (vs.set j p') (ls.set j l') := by
  have hv : (Value.slice (some ⟨g, 0, none⟩) ls.length c).ownBlock = some g := rfl
  have hgl := World.ownsRow.lt h.rows g rfl
  have hjl := get_lt hj
  have hpa := h.two j p hp
  have r1 := own_only h.rows ho (fun b h1 h2 => hpa b h1 h2)
  have s1 := World.ownsRow.stored r1 j p'
  have os : Only w1 (w1.setCell ⟨g, j, none⟩ p') (fun b => b = g) := Only.of_set p' rfl
  have hpg : p'.ownBlock ≠ some g := fun e => by
    rcases hat with h1 | ⟨b, h1, h2⟩
    · exact hpa g rfl (h1 ▸ e)
    · rw [h1] at e; injection e with e; omega
  have far : ∀ (i : Nat) (q : Value), i ≠ j → vs[i]? = some q → Apart p' q := fun i q hne hq b h1 h2 => by
    obtain ⟨l0, hl0⟩ := lt_get (l := ls) (i := i) (by rw [← h.len]; exact get_lt hq)
    rcases hat with e | ⟨b', e, h3⟩
    · exact h.sep j i p q (fun e => hne e.symm) hp hq b (e ▸ h1) h2
    · rw [e] at h1
      injection h1 with h1
      have := (h.list i l0 q hl0 hq).lt b h2
      omega
  refine ⟨by rw [List.length_set]; exact s1.1, by rw [List.length_set, List.length_set]; exact h.len, fun i l0 q hi hq => ?_, fun i q hq => ?_, fun i k q r hne hq hr => ?_⟩
  · rcases set_get hi with ⟨rfl, rfl⟩ | ⟨hne, hi⟩
    · rcases set_get hq with ⟨_, rfl⟩ | ⟨e, _⟩
      · exact hl.only os (fun b e1 e2 => hpg (e2 ▸ e1))
      · exact absurd rfl e
    · rcases set_get hq with ⟨e, _⟩ | ⟨_, hq⟩
      · exact absurd e hne
      · exact ((h.list i l0 q hi hq).only ho (fun b e1 e2 => h.sep i j q p hne hq hp b e1 e2)).only os (fun b e1 e2 => h.two i q hq b (by rw [hv, e2]) e1)
  · rcases set_get hq with ⟨rfl, rfl⟩ | ⟨_, hq⟩
    · exact fun b e1 e2 => by rw [hv] at e1; injection e1 with e1; exact hpg (e1 ▸ e2)
    · exact h.two i q hq
  · rcases set_get hq with ⟨e1, e2⟩ | ⟨h3, hq2⟩
    · rcases set_get hr with ⟨e3, _⟩ | ⟨h4, hr2⟩
      · exact absurd (e1.trans e3.symm) hne
      · rw [e2]; exact far k r h4 hr2
    · rcases set_get hr with ⟨e3, e4⟩ | ⟨h4, hr2⟩
      · rw [e4]; exact (far i q h3 hq2).symm
      · exact h.sep i k q r hne hq2 hr2

/-! ### days -/
/-- the places of so many nodes, by the days they are born on -/
def daysL (b : Nat → Nat) : Nat → List (List Nat)
  | 0 => []
  | k + 1 => ((daysL b k ++ List.replicate (b k + 1 - (daysL b k).length) []).set (b k) ((daysL b k ++ List.replicate (b k + 1 - (daysL b k).length) []).getD (b k) [] ++ [k]))

theorem daysL_get (b : Nat → Nat) : ∀ k d, d < (daysL b k).length → (daysL b k)[d]? = some ((List.range k).filter (fun i => b i == d))
  | 0, d, h => by simp [daysL] at h
  | k + 1, d, h => by
    have ih := daysL_get b k
    have hL : ∀ d, d < (daysL b k ++ List.replicate (b k + 1 - (daysL b k).length) []).length → d < (daysL b k).length ∨ (daysL b k ++ List.replicate (b k + 1 - (daysL b k).length) [])[d]? = some [] := fun d hd => by
      rcases Nat.lt_or_ge d (daysL b k).length with h1 | h1
      · exact Or.inl h1
      · right
        rw [List.getElem?_append_right h1, List.getElem?_replicate, if_pos (by simp at hd; omega)]
    have hall : ∀ d, d < (daysL b k ++ List.replicate (b k + 1 - (daysL b k).length) []).length → (∀ i, i < k → b i < (daysL b k).length) → (daysL b k ++ List.replicate (b k + 1 - (daysL b k).length) [])[d]? = some ((List.range k).filter (fun i => b i == d)) := fun d hd hb => by
      rcases Nat.lt_or_ge d (daysL b k).length with h1 | h1
      · rw [List.getElem?_append_left h1]; exact ih d h1
      · rcases hL d hd with h2 | h2
        · omega
        · rw [h2]
          congr 1
          symm
          rw [List.filter_eq_nil_iff]
          intro i hi
          have := hb i (by simpa using hi)
          simp
          omega
    have hbl : ∀ k i, i < k → b i < (daysL b k).length := by
      intro k
      induction k with
      | zero => intro i hi; omega
      | succ k ih2 =>
        intro i hi
        simp only [daysL, List.length_set, List.length_append, List.length_replicate]
        rcases Nat.lt_or_ge i k with h1 | h1
        · have := ih2 i h1; omega
        · have : i = k := by omega
          subst this; omega
    have hd : d < (daysL b k ++ List.replicate (b k + 1 - (daysL b k).length) []).length := by simpa [daysL] using h
    have h0 := hall d hd (hbl k)
    rw [daysL]
    by_cases e : b k = d
    · subst e
      rw [List.getElem?_set_self hd, List.getD_eq_getElem?_getD, h0, List.range_succ, List.filter_append]
      simp
    · rw [List.getElem?_set_ne e, h0, List.range_succ, List.filter_append]
      have : (b k == d) = false := by simpa using e
      simp [this]

theorem daysL_lt (b : Nat → Nat) : ∀ k i, i < k → b i < (daysL b k).length := by
  intro k
  induction k with
  | zero => intro i hi; omega
  | succ k ih2 =>
    intro i hi
    simp only [daysL, List.length_set, List.length_append, List.length_replicate]
    rcases Nat.lt_or_ge i k with h1 | h1
    · have := ih2 i h1; omega
    · have : i = k := by omega
      subst this; omega

theorem daysL_len (b : Nat → Nat) (m : Nat) : ∀ k, (∀ i, i < k → b i < m) → (daysL b k).length ≤ m
  | 0, _ => by simp [daysL]
  | k + 1, h => by
    have := daysL_len b m k (fun i hi => h i (by omega))
    have := h k (by omega)
    simp only [daysL, List.length_set, List.length_append, List.length_replicate]
    omega

theorem daysL_small (b : Nat → Nat) (k : Nat) : ∀ l ∈ daysL b k, l.length ≤ k ∧ ∀ x ∈ l, x < k := fun l hl => by
  obtain ⟨d, hd⟩ := List.mem_iff_getElem?.1 hl
  have := daysL_get b k d (get_lt hd)
  rw [hd] at this
  injection this with this
  subst this
  exact ⟨by have := List.length_filter_le (fun i => b i == d) (List.range k); simpa using this, fun x hx => by simp at hx; exact hx.1⟩
end

section
open Go.RowKit
set_option linter.unusedVariables false
set_option linter.unusedSimpArgs false

theorem infoRowA : (Try.prog.info? 41).map (fun i => (i.zero, i.size, i.bytes)) = some (some (.slice none 0 0), 1, 24) := by kernel_rfl

theorem bornsOf_at (f : List Nd) (k : Nat) (h : k < f.length) : (bornsOf f)[k]? = some (bOf f k) := by
  obtain ⟨x, hx⟩ := lt_get (l := bornsOf f) (i := k) (by rw [bornsOf_len]; exact h)
  rw [hx]
  unfold bOf
  rw [List.getD_eq_getElem?_getD, hx]
  rfl

/-- the days, so many of them empty -/
def daysM (L : List (List Nat)) (m : Nat) : List (List Nat) := L ++ List.replicate m []
theorem daysM_len (L : List (List Nat)) (m : Nat) : (daysM L m).length = L.length + m := by simp [daysM]
theorem daysM_zero (L : List (List Nat)) : daysM L 0 = L := by simp [daysM]
theorem daysM_snoc (L : List (List Nat)) (m : Nat) : (daysM L (m + 1)).map upL = (daysM L m).map upL ++ [[]] := by
  unfold daysM
  rw [List.replicate_succ', ← List.append_assoc, List.map_append]
  rfl
theorem daysL_step (b : Nat → Nat) (k : Nat) : daysL b (k + 1) = (daysM (daysL b k) (b k + 1 - (daysL b k).length)).set (b k) ((daysM (daysL b k) (b k + 1 - (daysL b k).length)).getD (b k) [] ++ [k]) := rfl

theorem upL_snoc (l : List Nat) (k : Nat) : upL (l ++ [k]) = upL l ++ [(k : Int)] := by unfold upL; rw [List.map_append]; rfl
theorem map_set_up (L : List (List Nat)) (j : Nat) (l : List Nat) : (L.set j l).map upL = (L.map upL).set j (upL l) := by rw [List.map_set]

set_option maxRecDepth 100000 in
set_option maxHeartbeats 2000000 in
theorem daysOf_calls (v : Value) (f : List Nd) (w : World) (lo hi : Nat) (hh : hi ≤ w.heap.size) (hv : NodesZ w lo hi v (f.map upN)) (hu : Under f) (hl : f.length ≤ 1000000) :
    Calls Try.prog 74 #[v] w fun e w' => ∃ a c vs, e = .returned (.slice a (daysL (bOf f) f.length).length c) ∧ OwnR w' w.heap.size (.slice a (daysL (bOf f) f.length).length c) vs ((daysL (bOf f) f.length).map upL) ∧ Below w.heap.size w w' := by
  obtain ⟨iI, hiI, hzI0, hzI1, hzI2⟩ := info_parts infoIntA
  obtain ⟨iR, hiR, hzR0, hzR1, hzR2⟩ := info_parts infoRowA
  have C1 := Lib.hid (birth_calls v f w lo hi hh hv hu hl)
  have HBL := Lib.hid (bOf_le f hu)
  obtain ⟨ao, c, hvs⟩ : ∃ ao c, v = .slice ao f.length c := by obtain ⟨ao, c, e, _⟩ := hv; exact ⟨ao, c, by rw [e]; simp⟩
  subst hvs
  clear hv hu
  go_enter Try.func74, Try.ntmps74
  go_wp2_with fail
  refine C1.out.mono ?_
  rintro e w1 ⟨gb, rfl, hrow, hb1⟩
  have HRB := Lib.hid hrow
  have HB1 := Lib.hid hb1
  have hgb1 : w.heap.size ≤ gb ∧ gb < w1.heap.size := World.ownsRow.lt hrow gb rfl
  have hs1 := hb1.size
  clear hrow hb1 C1
  go_wp2
  go_loopw [3, 9] (fun vd i wr => ∃ (k n : Nat) (a : Option Addr) (c : Nat) (vs : List Value), k ≤ f.length ∧ i = .int .i64 k ∧ vd = .slice a n c ∧ Hid (n = (daysL (bOf f) k).length) ∧ Hid (OwnR wr w1.heap.size (.slice a n c) vs ((daysL (bOf f) k).map upL)) ∧ Hid (RowN w.heap.size gb f.length (bornsOf f) wr) ∧ Hid (Below w.heap.size w wr) ∧ w1.heap.size ≤ wr.heap.size) (fun _ i _ => f.length - (intOf i).toNat)
  case atStart => exact ⟨0, 0, none, 0, [], Nat.zero_le _, rfl, rfl, Lib.hid rfl, Lib.hid (OwnR.nil _ _), HRB, HB1, Nat.le_refl _⟩
  case round =>
    obtain ⟨k, n, a, c, vs, hk, rfl, rfl, hn, ho, hrb, hb, hs⟩ := hrel
    clear HRB HB1
    by_cases hlt : k < f.length
    · have hcb := hrb.out.at_ (bornsOf_at f k hlt)
      obtain ⟨d, hd⟩ : ∃ d, bOf f k = d := ⟨_, rfl⟩
      rw [hd] at hcb
      have hdk : d ≤ k := by rw [← hd]; exact HBL.out k hlt
      have HD := Lib.hid hd
      have d0 : (0 : Int) ≤ d := by omega
      have k0 : (0 : Int) ≤ k := by omega
      have k1 : (k : Int) < f.length := by omega
      obtain ⟨W1, hW1⟩ : ∃ W, W = wr := ⟨_, rfl⟩
      subst hW1
      clear hd
      go_wp2
      go_loopw [3] (fun vd wr => ∃ (m n : Nat) (a : Option Addr) (c : Nat) (vs : List Value), vd = .slice a n c ∧ Hid (m ≤ d + 1 - (daysL (bOf f) k).length) ∧ n ≤ d + 1 + k ∧ Hid (n = (daysM (daysL (bOf f) k) m).length) ∧ Hid (OwnR wr w1.heap.size (.slice a n c) vs ((daysM (daysL (bOf f) k) m).map upL)) ∧ Hid (RowN w.heap.size gb f.length (bornsOf f) wr) ∧ Hid (RowKit.Below w.heap.size w wr) ∧ w1.heap.size ≤ wr.heap.size) (fun vd _ => match vd with | .slice _ n _ => d + 1 - n | _ => 0)
      case atStart => exact ⟨0, n, a, c, vs, rfl, Lib.hid (Nat.zero_le _), by have := daysL_len (bOf f) k k (fun i hi => by have := HBL.out i (by omega); omega); have := hn.out; omega, Lib.hid (by rw [daysM_zero]; exact hn.out), Lib.hid (by rw [daysM_zero]; exact ho.out), hrb, hb, hs⟩
      case round =>
        clear hn ho hrb hb hs
        obtain ⟨m, n, a, c, vs, rfl, hm, hnk, hn, ho, hrb, hb, hs⟩ := hrel
        by_cases hge : n ≤ d
        · have g0 : (n : Int) ≤ d := by omega
          go_wp2_with (at_builtin; refine wpList_append_own_at _ rfl _ _ 108 rfl w1.heap.size 41 iR (.slice none 0 0) 1 24 Try.underlying108 hiR hzR0 hzR1 hzR2 rfl (by decide) _ _ _ rfl (World.ownsRow.alloc ho.out.rows _) ⟨wr.heap.size, 0, none⟩ 1 1 [.slice none 0 0] rfl rfl ?e1 ?e2 ?e3 ?e4 ?e5 ?_)
          case e1 => exact World.news_of_block (heap_alloc_new _ _)
          case e2 => first | rfl | (intro u hu; simp at hu; subst hu; rfl)
          case e3 => unfold maxLen; rw [List.length_map]; have := hn.out; omega
          case e4 => rw [List.length_map]; have := hn.out; omega
          case e5 => simp; omega
          intro v6 w6 hown6 hgrow6 hnil6 hat6
          have hal : Below wr.heap.size wr (wr.alloc (.cells #[.slice none 0 0] 41)) := (Below.refl _ _).alloc (Nat.le_refl _) _
          have hrl := World.ownsRow.lt ho.out.rows
          have hb6 : Below w1.heap.size wr w6 := (hal.mono hs).grown hgrow6 (by simp; omega) (fun g e => (hrl g e).1)
          have R6 := Lib.hid (own_only hrb.out (Only.of_below (F := fun b => w1.heap.size ≤ b) hal |>.trans (Only.of_grown (F := fun b => w1.heap.size ≤ b) hgrow6 (fun g e => (hrl g e).1)) (fun _ _ h => h)) (fun g e h => by have := own_eqp e; omega))
          have O6 : OwnR w6 w1.heap.size v6 (vs ++ [.slice none 0 0]) ((daysM (daysL (bOf f) k) (m + 1)).map upL) := by
            rw [daysM_snoc]
            refine (ho.out.below hal).snocNil hgrow6 (by rw [List.length_map]; exact hown6) ?_
            rcases hat6 with h | h
            · exact Or.inl h
            · exact Or.inr (by rw [h]; first | rfl | simp)
          obtain ⟨a6, c6, rfl⟩ := O6.shape
          have HL6 : Hid ((daysM (daysL (bOf f) k) (m + 1)).length = n + 1) := Lib.hid (by rw [daysM_len, ← Nat.add_assoc, ← daysM_len, ← hn.out])
          have hO6 := Lib.hid O6
          rw [List.length_map, HL6.out] at hO6
          rw [List.length_map, HL6.out]
          have M6 : Hid (m + 1 ≤ d + 1 - (daysL (bOf f) k).length) := Lib.hid (by have := hn.out; rw [daysM_len] at this; omega)
          have B6 := Lib.hid (hb.out.trans (hb6.mono hs1))
          have hs6 : w1.heap.size ≤ w6.heap.size := by have := hb6.size; omega
          clear hown6 hgrow6 hnil6 hat6 hal hrl hb6 O6 ho hrb hb hs hm hn
          go_wp2
          go_roundw
          case rel => exact ⟨m + 1, n + 1, a6, c6, _, rfl, M6, by omega, Lib.hid HL6.out.symm, hO6, R6, B6, hs6⟩
          case measure => simp; omega
        · have g0 : (d : Int) < n := by omega
          have hmm : m = d + 1 - (daysL (bOf f) k).length := by have h1 := hm.out; have h2 := hn.out; rw [daysM_len] at h2; omega
          subst hmm
          clear hm
          obtain ⟨L, hL⟩ : ∃ L, daysM (daysL (bOf f) k) (d + 1 - (daysL (bOf f) k).length) = L := ⟨_, rfl⟩
          rw [hL] at hn ho
          have HLs : Hid (daysL (bOf f) (k + 1) = L.set d (L.getD d [] ++ [k])) := Lib.hid (by rw [daysL_step, HD.out, hL])
          have HLb : Hid (∀ l ∈ L, l.length ≤ k) := Lib.hid (fun l hl => by
            rw [← hL] at hl
            unfold daysM at hl
            rcases List.mem_append.1 hl with h | h
            · exact (daysL_small (bOf f) k l h).1
            · have := (List.mem_replicate.1 h).2; subst this; simp)
          clear hL
          obtain ⟨ld, hld⟩ := lt_get (l := L) (i := d) (by have := hn.out; omega)
          have hldl : ld.length ≤ k := HLb.out ld (List.mem_of_getElem? hld)
          obtain ⟨p, g, a5, c5, n5, hp, hv5, hc5, hf5, rfl, hi5, hg5, hg5'⟩ := ho.out.get (j := d) (l := upL ld) (by rw [List.getElem?_map, hld]; rfl)
          have hnL : Hid (n = (L.map upL).length) := Lib.hid (by rw [List.length_map]; exact hn.out)
          injection hv5 with hv5a hv5b hv5c
          subst hv5a hv5c
          clear hv5b
          have HGD : Hid (L.getD d [] = ld) := Lib.hid (by rw [List.getD_eq_getElem?_getD, hld]; rfl)
          have HLD := Lib.hid hld
          have HP := Lib.hid hp
          have HI5 := Lib.hid hi5
          clear hld hp hi5 HLb
          go_wp2_with (at_builtin; refine wpList_append_own_at _ rfl _ _ 41 rfl w1.heap.size 3 iI (.int .i64 0) 1 8 Try.underlying41 hiI hzI0 hzI1 hzI2 rfl (by decide) _ _ _ rfl (World.ownsRow.alloc HI5.out _) ⟨wr.heap.size, 0, none⟩ 1 1 [.int .i64 (k : Int)] rfl rfl ?f1 ?f2 ?f3 ?f4 ?f5 ?_)
          case f1 => exact World.news_of_block (heap_alloc_new _ _)
          case f2 => first | rfl | (intro u hu; simp at hu; subst hu; rfl)
          case f3 => unfold maxLen; rw [upL_len]; omega
          case f4 => rw [upL_len]; omega
          case f5 => simp; omega
          intro v6 w6 hown6 hgrow6 hnil6 hat6
          have hal : Below wr.heap.size wr (wr.alloc (.cells #[.int .i64 (k : Int)] 3)) := (Below.refl _ _).alloc (Nat.le_refl _) _
          have O6 : OwnI w6 w1.heap.size v6 (upL (L.getD d [] ++ [k])) := by
            rw [HGD.out, upL_snoc]
            unfold OwnI
            rw [List.map_append, List.length_append]
            exact hown6
          obtain ⟨a6, c6, hv6⟩ := O6.form
          subst hv6
          have hil := HI5.out.lt
          have ho6 : Only wr w6 (fun b => (Value.slice a5 (upL ld).length c5).ownBlock = some b) := (Only.of_below (F := fun b => (Value.slice a5 (upL ld).length c5).ownBlock = some b) hal).trans (Only.of_grown (F := fun b => (Value.slice a5 (upL ld).length c5).ownBlock = some b) hgrow6 (fun g e => e)) (fun _ _ h => h)
          have hgp : (Value.slice a5 (upL ld).length c5).ownBlock ≠ some g := fun e => ho.out.two d _ HP.out g rfl e
          have hc6 := (ho6.cell (o := d) hg5 hgp).trans hc5
          have hf6 := (ho6.frozen (o := d) hg5 hgp).trans hf5
          have hput := Lib.hid (OwnR.put (by rw [← hnL.out]; exact ho.out) (j := d) (l := upL ld) (by rw [List.getElem?_map, HLD.out]; rfl) HP.out ho6 O6 (by
            rcases hat6 with h | h
            · exact Or.inl h
            · exact Or.inr ⟨_, h, by simp⟩))
          rw [← hnL.out, ← map_set_up, ← HLs.out] at hput
          have R7 := Lib.hid (own_only (own_only hrb.out ho6 (fun b e h => by have := own_eqp e; have := hil b h; omega)) (Only.of_set (w := w6) (F := fun b => b = g) (p := ⟨g, d, none⟩) (.slice a6 (upL (L.getD d [] ++ [k])).length c6) rfl) (fun b e h => by have := own_eqp e; omega))
          have hb6 : Below w1.heap.size wr w6 := ho6.below hs (fun b h => (hil b h).1)
          have B7 : Hid (RowKit.Below w.heap.size w (w6.setCell ⟨g, d, none⟩ (.slice a6 (upL (L.getD d [] ++ [k])).length c6))) := Lib.hid ((hb.out.trans (hb6.mono hs1)).setCell (by show w.heap.size ≤ g; omega) _)
          have hs7 : w1.heap.size ≤ (w6.setCell ⟨g, d, none⟩ (.slice a6 (upL (L.getD d [] ++ [k])).length c6)).heap.size := by have := hb6.size; simp; omega
          have N7 : Hid (n = (daysL (bOf f) (k + 1)).length) := Lib.hid (by rw [HLs.out, List.length_set]; exact hn.out)
          clear hown6 hgrow6 hnil6 hat6 hal hil ho6 hgp hb6 O6 ho hrb hb hs hn hc5 hf5 HLD HP HI5 HLs HGD
          go_wp2
          go_roundw
          case rel => exact ⟨k + 1, n, _, c, _, by omega, by go_num, rfl, N7, hput, R7, B7, hs7⟩
          case measure => first | (simp [intOf]; done) | (simp [intOf]; omega)
    · have hke : k = f.length := by omega
      subst hke
      go_wp2
      go_ret
      have e := hn.out
      subst e
      exact ⟨a, c, vs, rfl, ho.out.mono hs1, hb.out⟩
end

end Go.Proofs.Ytanjanckkgbnbaa
