/- Rows of rows of numbers: each list in a block that no other one has. -/
import Derived.Test.YtabfdaofikccmaaFmPartL
import Derived.Test.YtabfdaofikccmaaFmBorn
import Derived.Test.YtabfdaofikccmaaFmGood
import Derived.Lib.SlicesCompact
import Derived.Test.YtabfdaofikccmaaShelf
import Derived.Test.YtabfdaofikccmaaFmMarkN
import Derived.Sort.OwnSortedInts
import Derived.Test.YtabfdaofikccmaaFmCmp
import Derived.Test.YtabfdaofikccmaaFmAsc
import Derived.Test.YtabfdaofikccmaaInMath
import Derived.Test.YtabfdaofikccmaaInOf
namespace Go.Proofs.Ytabfdaofikccmaa
section
section
set_option linter.unusedVariables false
set_option linter.unusedSimpArgs false
open Go.RowKit
structure OwnR (w : World) (base : Nat) (v : Value) (vs : List Value) (ls : List (List Int)) : Prop where
  rows : w.ownsRow base 34 1 v ls.length vs
  len : vs.length = ls.length
  list : ∀ (j : Nat) (l : List Int) (p : Value), ls[j]? = some l → vs[j]? = some p → OwnI w base p l
  two : ∀ (j : Nat) (p : Value), vs[j]? = some p → Apart v p
  sep : ∀ (i j : Nat) (p q : Value), i ≠ j → vs[i]? = some p → vs[j]? = some q → Apart p q
theorem OwnR.only {w w' : World} {base : Nat} {v : Value} {vs : List Value} {ls : List (List Int)} {F : Nat → Prop} (h : OwnR w base v vs ls) (ho : Only w w' F) (hn : ∀ g, base ≤ g → g < w.heap.size → ¬ F g) : OwnR w' base v vs ls :=
  ⟨own_only h.rows ho (fun g hg => by have := World.ownsRow.lt h.rows g hg; exact hn g this.1 this.2), h.len, fun j l p h1 h2 => (h.list j l p h1 h2).only ho (fun g hg => by have := (h.list j l p h1 h2).lt g hg; exact hn g this.1 this.2), h.two, h.sep⟩
theorem OwnR.below {w w' : World} {base : Nat} {v : Value} {vs : List Value} {ls : List (List Int)} (h : OwnR w base v vs ls) (hb : Below w.heap.size w w') : OwnR w' base v vs ls := h.only (Only.of_below (F := fun _ => False) hb) (fun _ _ _ => id)
theorem OwnR.mono {w : World} {base base' : Nat} {v : Value} {vs : List Value} {ls : List (List Int)} (h : OwnR w base v vs ls) (hb : base' ≤ base) : OwnR w base' v vs ls :=
  ⟨World.ownsRow.mono h.rows hb, h.len, fun j l p h1 h2 => (h.list j l p h1 h2).mono hb, h.two, h.sep⟩
theorem OwnR.nil (w : World) (base : Nat) : OwnR w base (.slice none 0 0) [] [] :=
  ⟨World.ownsRow_nil _ _ _ _, rfl, fun j l p h => by simp at h, fun j p h => by simp at h, fun i j p q _ h => by simp at h⟩
theorem OwnR.shape {w : World} {base : Nat} {v : Value} {vs : List Value} {ls : List (List Int)} (h : OwnR w base v vs ls) : ∃ a c, v = .slice a ls.length c := own_form' h.rows
theorem OwnR.setCell {w : World} {base : Nat} {v : Value} {vs : List Value} {ls : List (List Int)} {p : Addr} {u : Value} (h : OwnR w base v vs ls) (hp : p.block < base) : OwnR (w.setCell p u) base v vs ls :=
  h.only (Only.of_set (F := fun b => b = p.block) u rfl) (fun g h1 _ e => by omega)
theorem OwnR.get {w : World} {base : Nat} {v : Value} {vs : List Value} {ls : List (List Int)} (h : OwnR w base v vs ls) {j : Nat} {l : List Int} (hj : ls[j]? = some l) :
    ∃ p g a c n, vs[j]? = some p ∧ v = .slice (some ⟨g, 0, none⟩) ls.length n ∧ w.cell? ⟨g, j, none⟩ = some p ∧ w.frozen? ⟨g, j, none⟩ = false ∧ p = .slice a l.length c ∧ OwnI w base p l ∧ g < w.heap.size ∧ base ≤ g := by
  have hl := get_lt hj
  obtain ⟨p, hp⟩ := lt_get (l := vs) (i := j) (by rw [h.len]; exact hl)
  have hi := h.list j l p hj hp
  obtain ⟨a, c, e⟩ := hi.form
  have hr := h.rows
  obtain ⟨a', n, rfl⟩ := h.shape
  rcases hr.2 with ⟨h1, h0⟩ | ⟨g, c', cs, h1, _⟩
  · omega
  · injection h1 with h1 _ _
    subst h1
    have hlt := World.ownsRow.lt hr g rfl
    refine ⟨p, g, a, c, n, hp, rfl, ?_, World.ownsRow.frozenAt hr j, e, hi, hlt.2, hlt.1⟩
    rw [World.ownsRow.cellAt hr j (by omega), hp]
/-- a nil list behind the others -/
theorem OwnR.snocNil {w w' : World} {base : Nat} {v v' : Value} {vs : List Value} {ls : List (List Int)} (h : OwnR w base v vs ls) (hg : w.grownBy w' v.ownBlock)
    (hn : w'.ownsRow base 34 1 v' (ls.length + 1) (vs ++ [.slice none 0 0])) (hat : v'.ownBlock = v.ownBlock ∨ v'.ownBlock = some w.heap.size) : OwnR w' base v' (vs ++ [.slice none 0 0]) (ls ++ [[]]) := by
  have ho : Only w w' (fun b => v.ownBlock = some b) := Only.of_grown hg (fun g e => e)
  refine ⟨by rw [List.length_append]; exact hn, by simp [h.len], fun j l p hj hp => ?_, fun j p hp => ?_, fun i j p q hne hp hq => ?_⟩
  · rcases get_snoc hj with hj1 | ⟨ej, rfl⟩
    · rcases get_snoc hp with hp1 | ⟨ep, _⟩
      · exact (h.list j l p hj1 hp1).only ho (fun g h1 h2 => h.two j p hp1 g h2 h1)
      · have := get_lt hj1; have := h.len; omega
    · rcases get_snoc hp with hp1 | ⟨_, rfl⟩
      · have := get_lt hp1; have := h.len; omega
      · exact OwnI.nil _ _
  · rcases get_snoc hp with hp1 | ⟨_, rfl⟩
    · obtain ⟨l, hl⟩ := lt_get (l := ls) (i := j) (by rw [← h.len]; exact get_lt hp1)
      intro g h1 h2
      rcases hat with e | e
      · exact h.two j p hp1 g (e ▸ h1) h2
      · rw [e] at h1
        injection h1 with h1
        have := (h.list j l p hl hp1).lt g h2
        omega
    · exact (Apart.nil _).symm
  · rcases get_snoc hp with hp1 | ⟨e1, rfl⟩
    · rcases get_snoc hq with hq1 | ⟨e2, rfl⟩
      · exact h.sep i j p q hne hp1 hq1
      · exact (Apart.nil _).symm
    · exact Apart.nil _
/-- a list is put in its place again: it has grown, or it has been sorted -/
theorem OwnR.put {w w1 : World} {base g c j : Nat} {vs : List Value} {ls : List (List Int)} {l l' : List Int} {p p' : Value} (h : OwnR w base (.slice (some ⟨g, 0, none⟩) ls.length c) vs ls) (hj : ls[j]? = some l) (hp : vs[j]? = some p)
    (ho : Only w w1 (fun b => p.ownBlock = some b)) (hl : OwnI w1 base p' l') (hat : p'.ownBlock = p.ownBlock ∨ ∃ b, p'.ownBlock = some b ∧ w.heap.size ≤ b) :
    OwnR (w1.setCell ⟨g, j, none⟩ p') base (.slice (some ⟨g, 0, none⟩) ls.length c) (vs.set j p') (ls.set j l') := by
  have hv : (Value.slice (some ⟨g, 0, none⟩) ls.length c).ownBlock = some g := rfl
  have hgl := World.ownsRow.lt h.rows g rfl
  have hjl := get_lt hj
  have hpa := h.two j p hp
  have r1 := own_only h.rows ho (fun b h1 h2 => hpa b h1 h2)
  have s1 := World.ownsRow.stored r1 j p'
  have os : Only w1 (w1.setCell ⟨g, j, none⟩ p') (fun b => b = g) := Only.of_set p' rfl
  have hpg : p'.ownBlock ≠ some g := fun e => by
    rcases hat with h1 | ⟨b, h1, h2⟩
    · exact hpa g rfl (h1 ▸ e)
    · rw [h1] at e; injection e with e; omega
  have far : ∀ (i : Nat) (q : Value), i ≠ j → vs[i]? = some q → Apart p' q := fun i q hne hq b h1 h2 => by
    obtain ⟨l0, hl0⟩ := lt_get (l := ls) (i := i) (by rw [← h.len]; exact get_lt hq)
    rcases hat with e | ⟨b', e, h3⟩
    · exact h.sep j i p q (fun e => hne e.symm) hp hq b (e ▸ h1) h2
    · rw [e] at h1
      injection h1 with h1
      have := (h.list i l0 q hl0 hq).lt b h2
      omega
  refine ⟨by rw [List.length_set]; exact s1.1, by rw [List.length_set, List.length_set]; exact h.len, fun i l0 q hi hq => ?_, fun i q hq => ?_, fun i k q r hne hq hr => ?_⟩
  · rcases set_get hi with ⟨rfl, rfl⟩ | ⟨hne, hi⟩
    · rcases set_get hq with ⟨_, rfl⟩ | ⟨e, _⟩
      · exact hl.only os (fun b e1 e2 => hpg (e2 ▸ e1))
      · exact absurd rfl e
    · rcases set_get hq with ⟨e, _⟩ | ⟨_, hq⟩
      · exact absurd e hne
      · exact ((h.list i l0 q hi hq).only ho (fun b e1 e2 => h.sep i j q p hne hq hp b e1 e2)).only os (fun b e1 e2 => h.two i q hq b (by rw [hv, e2]) e1)
  · rcases set_get hq with ⟨rfl, rfl⟩ | ⟨_, hq⟩
    · exact fun b e1 e2 => by rw [hv] at e1; injection e1 with e1; exact hpg (e1 ▸ e2)
    · exact h.two i q hq
  · rcases set_get hq with ⟨e1, e2⟩ | ⟨h3, hq2⟩
    · rcases set_get hr with ⟨e3, _⟩ | ⟨h4, hr2⟩
      · exact absurd (e1.trans e3.symm) hne
      · rw [e2]; exact far k r h4 hr2
    · rcases set_get hr with ⟨e3, e4⟩ | ⟨h4, hr2⟩
      · rw [e4]; exact (far i q h3 hq2).symm
      · exact h.sep i k q r hne hq2 hr2

/-! ### days -/
/-- the places of so many nodes, by the days they are born on -/
def daysL (b : Nat → Nat) : Nat → List (List Nat)
  | 0 => []
  | k + 1 => ((daysL b k ++ List.replicate (b k + 1 - (daysL b k).length) []).set (b k) ((daysL b k ++ List.replicate (b k + 1 - (daysL b k).length) []).getD (b k) [] ++ [k]))
theorem daysL_get (b : Nat → Nat) : ∀ k d, d < (daysL b k).length → (daysL b k)[d]? = some ((List.range k).filter (fun i => b i == d))
  | 0, d, h => by simp [daysL] at h
  | k + 1, d, h => by
    have ih := daysL_get b k
    have hL : ∀ d, d < (daysL b k ++ List.replicate (b k + 1 - (daysL b k).length) []).length → d < (daysL b k).length ∨ (daysL b k ++ List.replicate (b k + 1 - (daysL b k).length) [])[d]? = some [] := fun d hd => by
      rcases Nat.lt_or_ge d (daysL b k).length with h1 | h1
      · exact Or.inl h1
      · right
        rw [List.getElem?_append_right h1, List.getElem?_replicate, if_pos (by simp at hd; omega)]
    have hall : ∀ d, d < (daysL b k ++ List.replicate (b k + 1 - (daysL b k).length) []).length → (∀ i, i < k → b i < (daysL b k).length) → (daysL b k ++ List.replicate (b k + 1 - (daysL b k).length) [])[d]? = some ((List.range k).filter (fun i => b i == d)) := fun d hd hb => by
      rcases Nat.lt_or_ge d (daysL b k).length with h1 | h1
      · rw [List.getElem?_append_left h1]; exact ih d h1
      · rcases hL d hd with h2 | h2
        · omega
        · rw [h2]
          congr 1
          symm
          rw [List.filter_eq_nil_iff]
          intro i hi
          have := hb i (by simpa using hi)
          simp
          omega
    have hbl : ∀ k i, i < k → b i < (daysL b k).length := by
      intro k
      induction k with
      | zero => intro i hi; omega
      | succ k ih2 =>
        intro i hi
        simp only [daysL, List.length_set, List.length_append, List.length_replicate]
        rcases Nat.lt_or_ge i k with h1 | h1
        · have := ih2 i h1; omega
        · have : i = k := by omega
          subst this; omega
    have hd : d < (daysL b k ++ List.replicate (b k + 1 - (daysL b k).length) []).length := by simpa [daysL] using h
    have h0 := hall d hd (hbl k)
    rw [daysL]
    by_cases e : b k = d
    · subst e
      rw [List.getElem?_set_self hd, List.getD_eq_getElem?_getD, h0, List.range_succ, List.filter_append]
      simp
    · rw [List.getElem?_set_ne e, h0, List.range_succ, List.filter_append]
      have : (b k == d) = false := by simpa using e
      simp [this]
theorem daysL_lt (b : Nat → Nat) : ∀ k i, i < k → b i < (daysL b k).length := by
  intro k
  induction k with
  | zero => intro i hi; omega
  | succ k ih2 =>
    intro i hi
    simp only [daysL, List.length_set, List.length_append, List.length_replicate]
    rcases Nat.lt_or_ge i k with h1 | h1
    · have := ih2 i h1; omega
    · have : i = k := by omega
      subst this; omega
theorem daysL_len (b : Nat → Nat) (m : Nat) : ∀ k, (∀ i, i < k → b i < m) → (daysL b k).length ≤ m
  | 0, _ => by simp [daysL]
  | k + 1, h => by
    have := daysL_len b m k (fun i hi => h i (by omega))
    have := h k (by omega)
    simp only [daysL, List.length_set, List.length_append, List.length_replicate]
    omega
theorem daysL_small (b : Nat → Nat) (k : Nat) : ∀ l ∈ daysL b k, l.length ≤ k ∧ ∀ x ∈ l, x < k := fun l hl => by
  obtain ⟨d, hd⟩ := List.mem_iff_getElem?.1 hl
  have := daysL_get b k d (get_lt hd)
  rw [hd] at this
  injection this with this
  subst this
  exact ⟨by have := List.length_filter_le (fun i => b i == d) (List.range k); simpa using this, fun x hx => by simp at hx; exact hx.1⟩
end
section
open Go.RowKit
set_option linter.unusedVariables false
set_option linter.unusedSimpArgs false
theorem infoRowA : (Try.prog.info? 34).map (fun i => (i.zero, i.size, i.bytes)) = some (some (.slice none 0 0), 1, 24) := by kernel_rfl
theorem bornsOf_at (f : List Nd) (k : Nat) (h : k < f.length) : (bornsOf f)[k]? = some (bOf f k) := by
  obtain ⟨x, hx⟩ := lt_get (l := bornsOf f) (i := k) (by rw [bornsOf_len]; exact h)
  rw [hx]
  unfold bOf
  rw [List.getD_eq_getElem?_getD, hx]
  rfl
/-- the days, so many of them empty -/
def daysM (L : List (List Nat)) (m : Nat) : List (List Nat) := L ++ List.replicate m []
theorem daysM_len (L : List (List Nat)) (m : Nat) : (daysM L m).length = L.length + m := by simp [daysM]
theorem daysM_zero (L : List (List Nat)) : daysM L 0 = L := by simp [daysM]
theorem daysM_snoc (L : List (List Nat)) (m : Nat) : (daysM L (m + 1)).map upL = (daysM L m).map upL ++ [[]] := by
  unfold daysM
  rw [List.replicate_succ', ← List.append_assoc, List.map_append]
  rfl
theorem daysL_step (b : Nat → Nat) (k : Nat) : daysL b (k + 1) = (daysM (daysL b k) (b k + 1 - (daysL b k).length)).set (b k) ((daysM (daysL b k) (b k + 1 - (daysL b k).length)).getD (b k) [] ++ [k]) := rfl
theorem upL_snoc (l : List Nat) (k : Nat) : upL (l ++ [k]) = upL l ++ [(k : Int)] := by unfold upL; rw [List.map_append]; rfl
theorem map_set_up (L : List (List Nat)) (j : Nat) (l : List Nat) : (L.set j l).map upL = (L.map upL).set j (upL l) := by rw [List.map_set]
set_option maxRecDepth 100000 in
set_option maxHeartbeats 2000000 in
theorem daysOf_calls (v : Value) (f : List Nd) (w : World) (lo hi : Nat) (hh : hi ≤ w.heap.size) (hv : NodesZ w lo hi v (f.map upN)) (hu : Under f) (hl : f.length ≤ 1000000) :
    Calls Try.prog 85 #[v] w fun e w' => ∃ a c vs, e = .returned (.slice a (daysL (bOf f) f.length).length c) ∧ OwnR w' w.heap.size (.slice a (daysL (bOf f) f.length).length c) vs ((daysL (bOf f) f.length).map upL) ∧ Below w.heap.size w w' := by
  obtain ⟨iI, hiI, hzI0, hzI1, hzI2⟩ := info_parts infoIntA
  obtain ⟨iR, hiR, hzR0, hzR1, hzR2⟩ := info_parts infoRowA
  have C1 := Lib.hid (birth_calls v f w lo hi hh hv hu hl)
  have HBL := Lib.hid (bOf_le f hu)
  obtain ⟨ao, c, hvs⟩ : ∃ ao c, v = .slice ao f.length c := by obtain ⟨ao, c, e, _⟩ := hv; exact ⟨ao, c, by rw [e]; simp⟩
  subst hvs
  clear hv hu
  go_enter Try.func85, Try.ntmps85
  go_wp2_with fail
  refine C1.out.mono ?_
  rintro e w1 ⟨gb, rfl, hrow, hb1⟩
  have HRB := Lib.hid hrow
  have HB1 := Lib.hid hb1
  have hgb1 : w.heap.size ≤ gb ∧ gb < w1.heap.size := World.ownsRow.lt hrow gb rfl
  have hs1 := hb1.size
  clear hrow hb1 C1
  go_wp2
  go_loopw [3, 9] (fun vd i wr => ∃ (k n : Nat) (a : Option Addr) (c : Nat) (vs : List Value), k ≤ f.length ∧ i = .int .i64 k ∧ vd = .slice a n c ∧ Hid (n = (daysL (bOf f) k).length) ∧ Hid (OwnR wr w1.heap.size (.slice a n c) vs ((daysL (bOf f) k).map upL)) ∧ Hid (RowN w.heap.size gb f.length (bornsOf f) wr) ∧ Hid (Below w.heap.size w wr) ∧ w1.heap.size ≤ wr.heap.size) (fun _ i _ => f.length - (intOf i).toNat)
  case atStart => exact ⟨0, 0, none, 0, [], Nat.zero_le _, rfl, rfl, Lib.hid rfl, Lib.hid (OwnR.nil _ _), HRB, HB1, Nat.le_refl _⟩
  case round =>
    obtain ⟨k, n, a, c, vs, hk, rfl, rfl, hn, ho, hrb, hb, hs⟩ := hrel
    clear HRB HB1
    by_cases hlt : k < f.length
    · have hcb := hrb.out.at_ (bornsOf_at f k hlt)
      obtain ⟨d, hd⟩ : ∃ d, bOf f k = d := ⟨_, rfl⟩
      rw [hd] at hcb
      have hdk : d ≤ k := by rw [← hd]; exact HBL.out k hlt
      have HD := Lib.hid hd
      have d0 : (0 : Int) ≤ d := by omega
      have k0 : (0 : Int) ≤ k := by omega
      have k1 : (k : Int) < f.length := by omega
      obtain ⟨W1, hW1⟩ : ∃ W, W = wr := ⟨_, rfl⟩
      subst hW1
      clear hd
      go_wp2
      go_loopw [3] (fun vd wr => ∃ (m n : Nat) (a : Option Addr) (c : Nat) (vs : List Value), vd = .slice a n c ∧ Hid (m ≤ d + 1 - (daysL (bOf f) k).length) ∧ n ≤ d + 1 + k ∧ Hid (n = (daysM (daysL (bOf f) k) m).length) ∧ Hid (OwnR wr w1.heap.size (.slice a n c) vs ((daysM (daysL (bOf f) k) m).map upL)) ∧ Hid (RowN w.heap.size gb f.length (bornsOf f) wr) ∧ Hid (RowKit.Below w.heap.size w wr) ∧ w1.heap.size ≤ wr.heap.size) (fun vd _ => match vd with | .slice _ n _ => d + 1 - n | _ => 0)
      case atStart => exact ⟨0, n, a, c, vs, rfl, Lib.hid (Nat.zero_le _), by have := daysL_len (bOf f) k k (fun i hi => by have := HBL.out i (by omega); omega); have := hn.out; omega, Lib.hid (by rw [daysM_zero]; exact hn.out), Lib.hid (by rw [daysM_zero]; exact ho.out), hrb, hb, hs⟩
      case round =>
        clear hn ho hrb hb hs
        obtain ⟨m, n, a, c, vs, rfl, hm, hnk, hn, ho, hrb, hb, hs⟩ := hrel
        by_cases hge : n ≤ d
        · have g0 : (n : Int) ≤ d := by omega
          go_wp2_with (at_builtin; refine wpList_append_own_at _ rfl _ _ 111 rfl w1.heap.size 34 iR (.slice none 0 0) 1 24 Try.underlying111 hiR hzR0 hzR1 hzR2 rfl (by decide) _ _ _ rfl (World.ownsRow.alloc ho.out.rows _) ⟨wr.heap.size, 0, none⟩ 1 1 [.slice none 0 0] rfl rfl ?e1 ?e2 ?e3 ?e4 ?e5 ?_)
          case e1 => exact World.news_of_block (heap_alloc_new _ _)
          case e2 => first | rfl | (intro u hu; simp at hu; subst hu; rfl)
          case e3 => unfold maxLen; rw [List.length_map]; have := hn.out; omega
          case e4 => rw [List.length_map]; have := hn.out; omega
          case e5 => simp; omega
          intro v6 w6 hown6 hgrow6 hnil6 hat6
          have hal : Below wr.heap.size wr (wr.alloc (.cells #[.slice none 0 0] 34)) := (Below.refl _ _).alloc (Nat.le_refl _) _
          have hrl := World.ownsRow.lt ho.out.rows
          have hb6 : Below w1.heap.size wr w6 := (hal.mono hs).grown hgrow6 (by simp; omega) (fun g e => (hrl g e).1)
          have R6 := Lib.hid (own_only hrb.out (Only.of_below (F := fun b => w1.heap.size ≤ b) hal |>.trans (Only.of_grown (F := fun b => w1.heap.size ≤ b) hgrow6 (fun g e => (hrl g e).1)) (fun _ _ h => h)) (fun g e h => by have := own_eqp e; omega))
          have O6 : OwnR w6 w1.heap.size v6 (vs ++ [.slice none 0 0]) ((daysM (daysL (bOf f) k) (m + 1)).map upL) := by
            rw [daysM_snoc]
            refine (ho.out.below hal).snocNil hgrow6 (by rw [List.length_map]; exact hown6) ?_
            rcases hat6 with h | h
            · exact Or.inl h
            · exact Or.inr (by rw [h]; first | rfl | simp)
          obtain ⟨a6, c6, rfl⟩ := O6.shape
          have HL6 : Hid ((daysM (daysL (bOf f) k) (m + 1)).length = n + 1) := Lib.hid (by rw [daysM_len, ← Nat.add_assoc, ← daysM_len, ← hn.out])
          have hO6 := Lib.hid O6
          rw [List.length_map, HL6.out] at hO6
          rw [List.length_map, HL6.out]
          have M6 : Hid (m + 1 ≤ d + 1 - (daysL (bOf f) k).length) := Lib.hid (by have := hn.out; rw [daysM_len] at this; omega)
          have B6 := Lib.hid (hb.out.trans (hb6.mono hs1))
          have hs6 : w1.heap.size ≤ w6.heap.size := by have := hb6.size; omega
          clear hown6 hgrow6 hnil6 hat6 hal hrl hb6 O6 ho hrb hb hs hm hn
          go_wp2
          go_roundw
          case rel => exact ⟨m + 1, n + 1, a6, c6, _, rfl, M6, by omega, Lib.hid HL6.out.symm, hO6, R6, B6, hs6⟩
          case measure => simp; omega
        · have g0 : (d : Int) < n := by omega
          have hmm : m = d + 1 - (daysL (bOf f) k).length := by have h1 := hm.out; have h2 := hn.out; rw [daysM_len] at h2; omega
          subst hmm
          clear hm
          obtain ⟨L, hL⟩ : ∃ L, daysM (daysL (bOf f) k) (d + 1 - (daysL (bOf f) k).length) = L := ⟨_, rfl⟩
          rw [hL] at hn ho
          have HLs : Hid (daysL (bOf f) (k + 1) = L.set d (L.getD d [] ++ [k])) := Lib.hid (by rw [daysL_step, HD.out, hL])
          have HLb : Hid (∀ l ∈ L, l.length ≤ k) := Lib.hid (fun l hl => by
            rw [← hL] at hl
            unfold daysM at hl
            rcases List.mem_append.1 hl with h | h
            · exact (daysL_small (bOf f) k l h).1
            · have := (List.mem_replicate.1 h).2; subst this; simp)
          clear hL
          obtain ⟨ld, hld⟩ := lt_get (l := L) (i := d) (by have := hn.out; omega)
          have hldl : ld.length ≤ k := HLb.out ld (List.mem_of_getElem? hld)
          obtain ⟨p, g, a5, c5, n5, hp, hv5, hc5, hf5, rfl, hi5, hg5, hg5'⟩ := ho.out.get (j := d) (l := upL ld) (by rw [List.getElem?_map, hld]; rfl)
          have hnL : Hid (n = (L.map upL).length) := Lib.hid (by rw [List.length_map]; exact hn.out)
          injection hv5 with hv5a hv5b hv5c
          subst hv5a hv5c
          clear hv5b
          have HGD : Hid (L.getD d [] = ld) := Lib.hid (by rw [List.getD_eq_getElem?_getD, hld]; rfl)
          have HLD := Lib.hid hld
          have HP := Lib.hid hp
          have HI5 := Lib.hid hi5
          clear hld hp hi5 HLb
          go_wp2_with (at_builtin; refine wpList_append_own_at _ rfl _ _ 34 rfl w1.heap.size 3 iI (.int .i64 0) 1 8 Try.underlying34 hiI hzI0 hzI1 hzI2 rfl (by decide) _ _ _ rfl (World.ownsRow.alloc HI5.out _) ⟨wr.heap.size, 0, none⟩ 1 1 [.int .i64 (k : Int)] rfl rfl ?f1 ?f2 ?f3 ?f4 ?f5 ?_)
          case f1 => exact World.news_of_block (heap_alloc_new _ _)
          case f2 => first | rfl | (intro u hu; simp at hu; subst hu; rfl)
          case f3 => unfold maxLen; rw [upL_len]; omega
          case f4 => rw [upL_len]; omega
          case f5 => simp; omega
          intro v6 w6 hown6 hgrow6 hnil6 hat6
          have hal : Below wr.heap.size wr (wr.alloc (.cells #[.int .i64 (k : Int)] 3)) := (Below.refl _ _).alloc (Nat.le_refl _) _
          have O6 : OwnI w6 w1.heap.size v6 (upL (L.getD d [] ++ [k])) := by
            rw [HGD.out, upL_snoc]
            unfold OwnI
            rw [List.map_append, List.length_append]
            exact hown6
          obtain ⟨a6, c6, hv6⟩ := O6.form
          subst hv6
          have hil := HI5.out.lt
          have ho6 : Only wr w6 (fun b => (Value.slice a5 (upL ld).length c5).ownBlock = some b) := (Only.of_below (F := fun b => (Value.slice a5 (upL ld).length c5).ownBlock = some b) hal).trans (Only.of_grown (F := fun b => (Value.slice a5 (upL ld).length c5).ownBlock = some b) hgrow6 (fun g e => e)) (fun _ _ h => h)
          have hgp : (Value.slice a5 (upL ld).length c5).ownBlock ≠ some g := fun e => ho.out.two d _ HP.out g rfl e
          have hc6 := (ho6.cell (o := d) hg5 hgp).trans hc5
          have hf6 := (ho6.frozen (o := d) hg5 hgp).trans hf5
          have hput := Lib.hid (OwnR.put (by rw [← hnL.out]; exact ho.out) (j := d) (l := upL ld) (by rw [List.getElem?_map, HLD.out]; rfl) HP.out ho6 O6 (by
            rcases hat6 with h | h
            · exact Or.inl h
            · exact Or.inr ⟨_, h, by simp⟩))
          rw [← hnL.out, ← map_set_up, ← HLs.out] at hput
          have R7 := Lib.hid (own_only (own_only hrb.out ho6 (fun b e h => by have := own_eqp e; have := hil b h; omega)) (Only.of_set (w := w6) (F := fun b => b = g) (p := ⟨g, d, none⟩) (.slice a6 (upL (L.getD d [] ++ [k])).length c6) rfl) (fun b e h => by have := own_eqp e; omega))
          have hb6 : Below w1.heap.size wr w6 := ho6.below hs (fun b h => (hil b h).1)
          have B7 : Hid (RowKit.Below w.heap.size w (w6.setCell ⟨g, d, none⟩ (.slice a6 (upL (L.getD d [] ++ [k])).length c6))) := Lib.hid ((hb.out.trans (hb6.mono hs1)).setCell (by show w.heap.size ≤ g; omega) _)
          have hs7 : w1.heap.size ≤ (w6.setCell ⟨g, d, none⟩ (.slice a6 (upL (L.getD d [] ++ [k])).length c6)).heap.size := by have := hb6.size; simp; omega
          have N7 : Hid (n = (daysL (bOf f) (k + 1)).length) := Lib.hid (by rw [HLs.out, List.length_set]; exact hn.out)
          clear hown6 hgrow6 hnil6 hat6 hal hil ho6 hgp hb6 O6 ho hrb hb hs hn hc5 hf5 HLD HP HI5 HLs HGD
          go_wp2
          go_roundw
          case rel => exact ⟨k + 1, n, _, c, _, by omega, by go_num, rfl, N7, hput, R7, B7, hs7⟩
          case measure => first | (simp [intOf]; done) | (simp [intOf]; omega)
    · have hke : k = f.length := by omega
      subst hke
      go_wp2
      go_ret
      have e := hn.out
      subst e
      exact ⟨a, c, vs, rfl, ho.out.mono hs1, hb.out⟩
end
end

section
section
set_option linter.unusedVariables false
set_option linter.unusedSimpArgs false
theorem asc_extZ : ∀ (a b : List Int), a.Pairwise (· < ·) → b.Pairwise (· < ·) → (∀ x, x ∈ a ↔ x ∈ b) → a = b
  | [], [], _, _, _ => rfl
  | [], y :: b, _, _, h => by have := (h y).2 (by simp); simp at this
  | x :: a, [], _, _, h => by have := (h x).1 (by simp); simp at this
  | x :: a, y :: b, ha, hb, h => by
    rw [List.pairwise_cons] at ha hb
    have hxy : x = y := by
      have h1 := (h x).1 (by simp)
      have h2 := (h y).2 (by simp)
      rcases List.mem_cons.1 h1 with h1 | h1
      · exact h1
      · rcases List.mem_cons.1 h2 with h2 | h2
        · exact h2.symm
        · have := hb.1 x h1
          have := ha.1 y h2
          omega
    subst hxy
    rw [asc_extZ a b ha.2 hb.2 (fun z => by
      constructor
      · intro hz
        have h1 := (h z).1 (List.mem_cons_of_mem _ hz)
        rcases List.mem_cons.1 h1 with rfl | h1
        · have := ha.1 z hz; omega
        · exact h1
      · intro hz
        have h1 := (h z).2 (List.mem_cons_of_mem _ hz)
        rcases List.mem_cons.1 h1 with rfl | h1
        · have := hb.1 z hz; omega
        · exact h1)]
theorem get_bang (zs : List Int) (j : Nat) (h : j < zs.length) : zs.toArray[j]! = zs[j] := by simp [getElem!_pos, h]
theorem compact_upto (zs : List Int) (hs : zs.Pairwise (· ≤ ·)) : ∀ m, m ≤ zs.length → (Lib.compactUpTo zs.toArray m).Pairwise (· < ·) ∧ (∀ x, x ∈ Lib.compactUpTo zs.toArray m ↔ x ∈ zs.take m)
  | 0, _ => ⟨by simp [Lib.compactUpTo], fun x => by simp [Lib.compactUpTo]⟩
  | m + 1, hm => by
    obtain ⟨h1, h2⟩ := compact_upto zs hs m (by omega)
    have hml : m < zs.length := by omega
    have e1 := get_bang zs m hml
    have ht : zs.take (m + 1) = zs.take m ++ [zs[m]] := List.take_succ_eq_append_getElem hml
    have hle : ∀ x ∈ zs.take m, x ≤ zs[m] := fun x hx => by
      have h3 := hs
      rw [← List.take_append_drop m zs] at h3
      have h4 := (List.pairwise_append.1 h3).2.2 x hx zs[m] (by rw [List.drop_eq_getElem_cons hml]; exact List.mem_cons_self)
      exact h4
    rw [Lib.compactUpTo_succ, e1, ht]
    cases hk : Lib.keeps zs.toArray m with
    | true =>
      simp only [if_true]
      refine ⟨?_, fun x => by rw [List.mem_append, List.mem_append, h2 x]⟩
      rw [List.pairwise_append]
      refine ⟨h1, List.pairwise_singleton _ _, fun a ha b hb => ?_⟩
      simp only [List.mem_singleton] at hb
      subst hb
      have ha2 := (h2 a).1 ha
      rcases Nat.eq_zero_or_pos m with h0 | h0
      · subst h0; simp at ha2
      · unfold Lib.keeps at hk
        rw [decide_eq_true_iff] at hk
        rcases hk with hk | hk
        · omega
        · have e2 := get_bang zs (m - 1) (by omega)
          rw [e1, e2] at hk
          have hlast : a ≤ zs[m - 1] := by
            have ht2 : zs.take m = zs.take (m - 1) ++ [zs[m - 1]] := by
              have := List.take_succ_eq_append_getElem (l := zs) (i := m - 1) (by omega)
              rwa [show m - 1 + 1 = m from by omega] at this
            rw [ht2] at ha2
            rcases List.mem_append.1 ha2 with ha2 | ha2
            · have h3 := hs
              rw [← List.take_append_drop (m - 1) zs] at h3
              exact (List.pairwise_append.1 h3).2.2 a ha2 zs[m - 1] (by rw [List.drop_eq_getElem_cons (by omega)]; exact List.mem_cons_self)
            · simp only [List.mem_singleton] at ha2
              omega
          have hmm := hle zs[m - 1] (by
            have ht2 : zs.take m = zs.take (m - 1) ++ [zs[m - 1]] := by
              have := List.take_succ_eq_append_getElem (l := zs) (i := m - 1) (by omega)
              rwa [show m - 1 + 1 = m from by omega] at this
            rw [ht2]
            exact List.mem_append.2 (Or.inr (List.mem_singleton.2 rfl)))
          omega
    | false =>
      simp only [Bool.false_eq_true, if_false, List.append_nil]
      refine ⟨h1, fun x => ?_⟩
      rw [h2 x, List.mem_append, List.mem_singleton]
      constructor
      · exact Or.inl
      · rintro (h3 | h3)
        · exact h3
        · have h0 : 0 < m := by
            rcases Nat.eq_zero_or_pos m with h0 | h0
            · subst h0
              unfold Lib.keeps at hk
              simp at hk
            · exact h0
          unfold Lib.keeps at hk
          rw [decide_eq_false_iff_not] at hk
          have e2 := get_bang zs (m - 1) (by omega)
          have h4 : zs[m] = zs[m - 1] := by
            refine Classical.byContradiction fun hne => hk (Or.inr ?_)
            rw [e1, e2]
            exact hne
          rw [h3, h4]
          have ht2 : zs.take m = zs.take (m - 1) ++ [zs[m - 1]] := by
            have := List.take_succ_eq_append_getElem (l := zs) (i := m - 1) (by omega)
            rwa [show m - 1 + 1 = m from by omega] at this
          rw [ht2]
          exact List.mem_append.2 (Or.inr (List.mem_singleton.2 rfl))
theorem compact_asc (zs : List Int) (hs : zs.Pairwise (· ≤ ·)) : (Lib.compact zs).Pairwise (· < ·) ∧ ∀ x, x ∈ Lib.compact zs ↔ x ∈ zs := by
  have h := compact_upto zs hs zs.length (Nat.le_refl _)
  rw [List.take_length] at h
  exact h
theorem sort_compact (L : List Nat) : Lib.compact ((upL L).mergeSort fun x y => decide (x ≤ y)) = upL (sortd L) := by
  have hp := List.mergeSort_perm (upL L) (fun x y => decide (x ≤ y))
  have hs : ((upL L).mergeSort fun x y => decide (x ≤ y)).Pairwise (· ≤ ·) := by
    have h := List.pairwise_mergeSort (le := fun x y : Int => decide (x ≤ y)) (fun a b c h1 h2 => by simp at h1 h2 ⊢; omega) (fun a b => by simp; omega) (upL L)
    exact h.imp (fun hab => by simpa using hab)
  obtain ⟨h1, h2⟩ := compact_asc _ hs
  refine asc_extZ _ _ h1 ?_ (fun x => ?_)
  · unfold upL
    rw [List.pairwise_map]
    exact (sortd_asc L).imp (fun h => by omega)
  · rw [h2 x, hp.mem_iff]
    unfold upL
    simp only [List.mem_map, mem_sortd]
end
section
open Go.RowKit Go.Sort
set_option linter.unusedVariables false
set_option linter.unusedSimpArgs false
theorem upL_lenM (l : List Nat) : (upL l).length = l.length := by unfold upL; simp
/-- options whose places are told so far -/
def movL (L Q : List Nat) (k : Nat) : List Int := upL ((L.take k).map (fun x => Q.getD x 0)) ++ List.replicate (L.length - k) 0
theorem movL_zero (L Q : List Nat) : movL L Q 0 = List.replicate L.length 0 := by simp [movL, upL]
theorem movL_all (L Q : List Nat) : movL L Q L.length = upL (L.map (fun x => Q.getD x 0)) := by simp [movL]
theorem movL_len (L Q : List Nat) (k : Nat) (h : k ≤ L.length) : (movL L Q k).length = L.length := by simp [movL, upL]; omega
theorem movL_set (L Q : List Nat) (k x : Nat) (h : L[k]? = some x) : (movL L Q k).set k ((Q.getD x 0 : Nat) : Int) = movL L Q (k + 1) := by
  have hk := get_lt h
  unfold movL
  have e1 : (upL ((L.take k).map (fun x => Q.getD x 0))).length = k := by simp [upL]; omega
  rw [List.set_append_right _ _ (by rw [e1]; exact Nat.le_refl _), e1, Nat.sub_self, show L.length - k = (L.length - (k + 1)) + 1 from by omega, List.replicate_succ, List.set_cons_zero, List.take_add_one, h, List.map_append]
  unfold upL
  rw [List.map_append, List.append_assoc]
  rfl
/-- a row's cells, for the library -/
theorem OwnI.cur {w : World} {base g n c : Nat} {l : List Int} (h : OwnI w base (.slice (some ⟨g, 0, none⟩) n c) l) : ∃ cur : Array Value, w.heap[g]? = some (.cells cur 3 (0, 0)) ∧ l.length ≤ c ∧ c ≤ maxLen ∧ cur.size = c * 1 ∧ cur.toList.take l.length = l.map (Value.int .i64) ∧ base ≤ g ∧ n = l.length := by
  have hl := h.1
  rcases h.2 with ⟨h1, _⟩ | ⟨g', c', cur, hv, hb, hh, h1, h2, h3, h4⟩
  · cases h1
  · injection hv with e1 e2 e3
    injection e1 with e1
    injection e1 with e1 _ _
    subst e1 e2 e3
    exact ⟨cur, hh, h1, h2, h3, by rw [Nat.mul_one] at h4; exact h4, hb, rfl⟩
theorem sort_own {w : World} {base g c : Nat} {l : List Int} (h : OwnI w base (.slice (some ⟨g, 0, none⟩) l.length c) l) (hl : l.length ≤ 1000) :
    Calls Try.prog 102 #[.slice (some ⟨g, 0, none⟩) l.length c] w fun e w' => e = .returned (.tuple #[]) ∧ OwnI w' base (.slice (some ⟨g, 0, none⟩) l.length c) (l.mergeSort fun x y => decide (x ≤ y)) ∧ w.grownBy w' (some g) := by
  obtain ⟨cur, hb, h1, h2, h3, ht, hbase, _⟩ := h.cur
  refine (Try.slices_Sort_int g 0 c l w (holds_of_blockI hb ht) (h.lt g rfl).2 (by omega)).mono ?_
  rintro e w' ⟨rfl, n, os, rfl⟩
  have hlen : (l.mergeSort fun x y => decide (x ≤ y)).length = l.length := List.length_mergeSort _
  refine ⟨rfl, ?_, grownBy_sortedI _⟩
  unfold OwnI
  rw [hlen]
  exact ownsRow_sortedI hlen hbase hb h1 h2 h3
theorem grow_nil (w : World) : grow w #[] = w := by simp [grow]
theorem compact_own {w : World} {base g c : Nat} {l : List Int} (h : OwnI w base (.slice (some ⟨g, 0, none⟩) l.length c) l) (hl : l.length ≤ 1000) :
    Calls Try.prog 103 #[.slice (some ⟨g, 0, none⟩) l.length c] w fun e w' => e = .returned (.slice (some ⟨g, 0, none⟩) (Lib.compact l).length c) ∧ OwnI w' base (.slice (some ⟨g, 0, none⟩) (Lib.compact l).length c) (Lib.compact l) ∧ w.grownBy w' (some g) := by
  obtain ⟨cur, hb, h1, h2, h3, ht, hbase, _⟩ := h.cur
  have hcl := Lib.compact_length_le l
  refine (Try.slices_Compact_int g 0 c l w (holds_of_blockI hb ht) (by omega) h1).mono ?_
  rintro e w' ⟨rfl, q, rfl⟩
  have hg := grownBy_sortedI (w := w) (g := g) (n := q) (os := #[]) (Lib.compact l ++ List.replicate (l.length - (Lib.compact l).length) 0).toArray
  have hh := heap_sortedI (n := q) (os := #[]) (Lib.compact l ++ List.replicate (l.length - (Lib.compact l).length) 0).toArray hb
  rw [grow_nil] at hg hh
  have htl : (Lib.compact l ++ List.replicate (l.length - (Lib.compact l).length) (0 : Int)).length = l.length := by simp; omega
  have ht2 := take_putCellsI cur (Lib.compact l ++ List.replicate (l.length - (Lib.compact l).length) 0) (by rw [htl]; omega)
  rw [htl] at ht2
  refine ⟨rfl, ⟨by simp, Or.inr ⟨g, c, _, rfl, hbase, hh, by omega, h2, by simp [putCells, h3], ?_⟩⟩, hg⟩
  rw [Nat.mul_one]
  have e : ((putCells (Value.int .i64) 0 (Lib.compact l ++ List.replicate (l.length - (Lib.compact l).length) 0).toArray cur).toList.take l.length).take (Lib.compact l).length = (putCells (Value.int .i64) 0 (Lib.compact l ++ List.replicate (l.length - (Lib.compact l).length) 0).toArray cur).toList.take (Lib.compact l).length := by
    rw [List.take_take, Nat.min_eq_left hcl]
  rw [← e, ht2, ← List.map_take, List.take_left']
  rfl
set_option maxHeartbeats 1000000 in
theorem movedI_calls (vo vp : Value) (L Q : List Nat) (w : World) (lo hi lo' hi' : Nat) (hh : hi ≤ w.heap.size) (hh' : hi' ≤ w.heap.size) (hv : IntsZ w lo hi vo (upL L)) (hp : IntsZ w lo' hi' vp (upL Q)) (hL : ∀ x ∈ L, x < Q.length) (hl : L.length ≤ 1000) (hQ : Q.length ≤ 1000000) :
    Calls Try.prog 83 #[vo, vp] w fun e w' => ∃ g c, e = .returned (.slice (some ⟨g, 0, none⟩) (sortd (L.map (fun x => Q.getD x 0))).length c) ∧ OwnI w' w.heap.size (.slice (some ⟨g, 0, none⟩) (sortd (L.map (fun x => Q.getD x 0))).length c) (upL (sortd (L.map (fun x => Q.getD x 0)))) ∧ Below w.heap.size w w' := by
  obtain ⟨i0, hi0, hz0, hz1, hz2⟩ := info_parts infoIntA
  obtain ⟨ao, co, rfl, hco⟩ := ints_lenP hv
  obtain ⟨ap, cp, rfl, hcp⟩ := ints_lenP hp
  have HV := Lib.hid hv
  have HP := Lib.hid hp
  have HL := Lib.hid hL
  clear hv hp hL
  go_enter Try.func83, Try.ntmps83
  go_wp2_with (at_make; refine wpList_make_full _ rfl _ _ 34 rfl w.heap.size 3 i0 (.int .i64 0) 1 Try.underlying34 hi0 hz0 hz1 _ _ _ _ L.length rfl rfl rfl rfl (by rw [hz2]; omega) (by unfold maxLen; omega) (Nat.le_refl _) ?_; intro w1 hown hg)
  have HO : Hid (OwnI w1 w.heap.size (.slice (some ⟨w.heap.size, 0, none⟩) L.length L.length) (movL L Q 0)) := Lib.hid (by
    have e : (madeCells (Value.int .i64 0).cells (L.length * 1)).toList = (movL L Q 0).map (Value.int .i64) := by
      show (madeCells #[Value.int .i64 0] (L.length * 1)).toList = _
      rw [Nat.mul_one, made_one, movL_zero]
      simp
    unfold OwnI
    rw [movL_len L Q 0 (Nat.zero_le _), ← e]
    exact hown)
  have HB : Hid (Below w.heap.size w w1) := Lib.hid ((Below.refl _ _).grown hg (Nat.le_refl _) (fun k hk => by cases hk))
  clear hown hg
  go_wp2
  go_loopw [13] (fun i wr => ∃ k : Nat, k ≤ L.length ∧ i = .int .i64 k ∧ Hid (OwnI wr w.heap.size (.slice (some ⟨w.heap.size, 0, none⟩) L.length L.length) (movL L Q k)) ∧ Hid (RowKit.Below w.heap.size w wr)) (fun i _ => L.length - (intOf i).toNat)
  case atStart => exact ⟨0, Nat.zero_le _, rfl, HO, HB⟩
  case round =>
    obtain ⟨k, hk, rfl, ho, hb⟩ := hrel
    clear HO HB
    by_cases hlt : k < L.length
    · obtain ⟨x, hx⟩ := lt_get hlt
      have hxq := HL.out x (List.mem_of_getElem? hx)
      obtain ⟨y, hy⟩ := lt_get hxq
      obtain ⟨b1, o1, rfl, _, q1⟩ := ints_atP (HV.out.below hb.out hh) hx
      obtain ⟨b2, o2, rfl, _, q2⟩ := ints_atP (HP.out.below hb.out hh') hy
      obtain ⟨u, hu⟩ := lt_get (l := movL L Q k) (i := k) (by rw [movL_len L Q k hk]; exact hlt)
      obtain ⟨c0, f0⟩ := ho.out.at_ hu
      have P := ho.out.put (x := k) (v := (y : Int))
      have hst := movL_set L Q k x hx
      rw [show Q.getD x 0 = y from by rw [List.getD_eq_getElem?_getD, hy]; rfl] at hst
      rw [hst] at P
      have R1 := Lib.hid P.1
      have R2 : Hid (RowKit.Below w.heap.size w (wr.setCell ⟨w.heap.size, k, none⟩ (.int .i64 (y : Int)))) := Lib.hid (hb.out.setCell (Nat.le_refl _) _)
      have k0 : (0 : Int) ≤ k := by omega
      have k1 : (k : Int) < L.length := by omega
      have x0 : (0 : Int) ≤ x := by omega
      have x1 : (x : Int) < Q.length := by omega
      clear P hst ho hb hx hy hu
      go_wp2
      go_roundw
      case rel => exact ⟨k + 1, by omega, by go_num, R1, R2⟩
      case measure => first | (simp [intOf]; done) | (simp [intOf]; omega)
    · have hke : k = L.length := by omega
      subst hke
      have hml := movL_len L Q L.length (Nat.le_refl _)
      have H1 : Hid (OwnI wr w.heap.size (.slice (some ⟨w.heap.size, 0, none⟩) (upL (L.map (fun x => Q.getD x 0))).length L.length) (upL (L.map (fun x => Q.getD x 0)))) := Lib.hid (by
        have h := ho.out
        rw [movL_all] at h
        have e : (upL (L.map (fun x => Q.getD x 0))).length = L.length := by simp [upL]
        rw [e]
        exact h)
      have hul : (upL (L.map (fun x => Q.getD x 0))).length = L.length := by simp [upL]
      have C1 := Lib.hid (sort_own H1.out (by omega))
      rw [hul] at C1
      have HSC := Lib.hid (sort_compact (L.map (fun x => Q.getD x 0)))
      have hsl : ((upL (L.map (fun x => Q.getD x 0))).mergeSort fun x y => decide (x ≤ y)).length = L.length := by rw [List.length_mergeSort, hul]
      generalize (upL (L.map (fun x => Q.getD x 0))).mergeSort (fun x y => decide (x ≤ y)) = zs at C1 HSC hsl
      obtain ⟨SL, hSL⟩ : ∃ SL, sortd (L.map (fun x => Q.getD x 0)) = SL := ⟨_, rfl⟩
      rw [hSL] at HSC
      have HSL := Lib.hid hSL
      clear ho H1 hml hul hSL
      go_wp2_with fail
      refine C1.out.mono ?_
      rintro e w2 ⟨rfl, ho2, hg2⟩
      have B2 := Lib.hid (hb.out.grown hg2 hb.out.size (fun q hq => by injection hq with hq; omega))
      have C2 := Lib.hid (compact_own (l := zs) (by rw [hsl]; exact ho2) (by omega))
      rw [hsl, HSC.out] at C2
      clear ho2 hg2 hb C1
      go_wp2_with fail
      refine C2.out.mono ?_
      rintro e w3 ⟨rfl, ho3, hg3⟩
      have B3 := Lib.hid (B2.out.grown hg3 B2.out.size (fun q hq => by injection hq with hq; omega))
      rw [upL_lenM] at ho3
      rw [upL_lenM]
      have O3 := Lib.hid ho3
      clear ho3 hg3 C2
      go_wp2_with fail
      go_ret
      rw [HSL.out]
      exact ⟨_, _, rfl, O3.out, B3.out⟩
end
end

section
section
open Go.RowKit Go.Sort
set_option linter.unusedVariables false
set_option linter.unusedSimpArgs false
/-- memory is laid, and some answers are drawn; nothing else -/
def Grew (w w' : World) : Prop := ∃ (q : Nat) (os : Array Obj), w' = grow (w.drewN q) os
theorem Grew.refl (w : World) : Grew w w := ⟨0, #[], by cases w; simp [grow, World.drewN]⟩
theorem Grew.alloc {w w' : World} (h : Grew w w') (o : Obj) : Grew w (w'.alloc o) := by
  obtain ⟨q, os, rfl⟩ := h
  refine ⟨q, os.push o, ?_⟩
  show ({ (grow (w.drewN q) os) with heap := (w.heap ++ os).push o } : World) = { (w.drewN q) with heap := w.heap ++ os.push o }
  rw [Array.append_push]
  rfl
theorem Grew.drew {w w' : World} (h : Grew w w') : Grew w w'.drew := by
  obtain ⟨q, os, rfl⟩ := h
  exact ⟨q + 1, os, rfl⟩
set_option maxRecDepth 100000 in
set_option maxHeartbeats 1000000 in
theorem cmpOptsG_calls (v1 v2 v1' v2' : Value) (a b : Nz) (w : World) (lo hi lo' hi' : Nat) (hh : hi ≤ w.heap.size) (hh' : hi' ≤ w.heap.size)
    (h1 : IntsZ w lo hi v1 a.1) (h2 : IntsZ w lo hi v2 a.2) (h1' : IntsZ w lo' hi' v1' b.1) (h2' : IntsZ w lo' hi' v2' b.2) :
    Calls Try.prog 59 #[.agg #[v1, v2], .agg #[v1', v2']] w fun e w' => e = .returned (.int .i64 (cmpNd a b)) ∧ Grew w w' := by
  have HB0 := Lib.hid fun o o' => show Below w.heap.size w ((w.alloc o).alloc o') from ((Below.refl _ _).alloc (Nat.le_refl _) _).alloc (by simp) _
  have HG0 := Lib.hid fun o o' => show Grew w ((w.alloc o).alloc o') from ((Grew.refl _).alloc _).alloc _
  obtain ⟨r1, hr1⟩ : ∃ r, cmpL a.1 b.1 = r := ⟨_, rfl⟩
  obtain ⟨r2, hr2⟩ : ∃ r, cmpL a.2 b.2 = r := ⟨_, rfl⟩
  have HR : Hid (cmpNd a b = orI r1 r2) := Lib.hid (by unfold cmpNd; rw [hr1, hr2])
  have C1 := Lib.hid fun (W : World) (hW : Below w.heap.size w W) => (compare_calls' v1 v1' a.1 b.1 r1 (Lib.hid hr1) W lo hi lo' hi' (h1.below hW hh) (h1'.below hW hh')).mono fun _ _ h => (⟨h.1, h.2.symm⟩ : _ ∧ _ = W)
  have C2 := Lib.hid fun (W : World) (hW : Below w.heap.size w W) => (compare_calls' v2 v2' a.2 b.2 r2 (Lib.hid hr2) W lo hi lo' hi' (h2.below hW hh) (h2'.below hW hh')).mono fun _ _ h => (⟨h.1, h.2.symm⟩ : _ ∧ _ = W)
  clear h1 h2 h1' h2' hr1 hr2
  go_enter Try.func59, Try.ntmps59
  go_wp2_with fail
  have HB := HB0.out (.cells #[v1, v2] 57) (.cells #[v1', v2'] 57)
  have HG := HG0.out (.cells #[v1, v2] 57) (.cells #[v1', v2'] 57)
  have d1 : ((w.alloc (.cells #[v1, v2] 57)).alloc (.cells #[v1', v2'] 57)).cell? ⟨w.heap.size, 0, none⟩ = some v1 := by go_simp
  have d2 : ((w.alloc (.cells #[v1, v2] 57)).alloc (.cells #[v1', v2'] 57)).cell? ⟨w.heap.size, 1, none⟩ = some v2 := by go_simp
  have d3 : ((w.alloc (.cells #[v1, v2] 57)).alloc (.cells #[v1', v2'] 57)).cell? ⟨w.heap.size + 1, 0, none⟩ = some v1' := by go_simp
  have d4 : ((w.alloc (.cells #[v1, v2] 57)).alloc (.cells #[v1', v2'] 57)).cell? ⟨w.heap.size + 1, 1, none⟩ = some v2' := by go_simp
  have hsz : ((w.alloc (.cells #[v1, v2] 57)).alloc (.cells #[v1', v2'] 57)).heap.size = w.heap.size + 1 + 1 := by simp
  generalize (w.alloc (.cells #[v1, v2] 57)).alloc (.cells #[v1', v2'] 57) = W at HB HG d1 d2 d3 d4 hsz ⊢
  have HB' : Below w.heap.size w W.drew := below_drewN HB 1
  have HG' : Hid (Grew w W.drew) := Lib.hid HG.drew
  have HZ := Lib.hid hsz
  clear hsz HG
  go_still_tail 10, (by kernel_rfl)
  still_call (C1.out _ HB')
  repeat still_step
  still_call (C2.out _ HB')
  repeat still_step
  refine wpStill_nil ?_
  change wpList _ _ _ _ _ W.drew
  generalize W.drew = W2 at HB' HG'
  have HB2 := Lib.hid HB'
  have C3 := Lib.hid fun (W : World) (g c : Nat) => or_calls r1 r2 g c W
  clear HB' HB d1 d2 d3 d4 C1 C2
  go_wp2_with fail
  refine (C3.out _ _ _ ?_ ?_).mono ?_
  · go_simp
  · go_simp
  rintro e w4 ⟨rfl, rfl⟩
  go_wp2_with fail
  go_ret
  exact ⟨ret_int HR.out.symm, HG'.out.alloc _⟩
/-- nodes that may be compared: which, and where they lie -/
structure CmpAt (w : World) (pb gm n cm : Nat) (vs : List (Value × Value)) (M : List Nz) (lo hi : Nat) : Prop where
  box : w.cell? ⟨pb, 0, none⟩ = some (.slice (some ⟨gm, 0, none⟩) n cm)
  len : vs.length = n ∧ M.length = n ∧ n ≤ cm
  at_ : ∀ (j : Nat) (nd : Nz) (p : Value × Value), M[j]? = some nd → vs[j]? = some p → w.cell? ⟨gm, j * 2, none⟩ = some p.1 ∧ w.cell? ⟨gm, j * 2 + 1, none⟩ = some p.2 ∧ IntsZ w lo hi p.1 nd.1 ∧ IntsZ w lo hi p.2 nd.2
set_option maxRecDepth 100000 in
set_option maxHeartbeats 1000000 in
theorem closure_calls (i j : Nat) (w : World) (pb gm n cm : Nat) (vs : List (Value × Value)) (M : List Nz) (lo hi : Nat) (hh : hi ≤ w.heap.size) (h : CmpAt w pb gm n cm vs M lo hi) (hi' : i < n) (hj : j < n) (hn : n ≤ 1000000) :
    Calls Try.prog 87 #[.int .i64 (i : Int), .int .i64 (j : Int), .pointer (some ⟨pb, 0, none⟩)] w fun e w' => e = .returned (.int .i64 (cmpNd (M.getD i ([], [])) (M.getD j ([], [])))) ∧ Grew w w' := by
  obtain ⟨nd, hnd⟩ := lt_get (l := M) (i := i) (by rw [h.len.2.1]; exact hi')
  obtain ⟨nd', hnd'⟩ := lt_get (l := M) (i := j) (by rw [h.len.2.1]; exact hj)
  obtain ⟨p, hp⟩ := lt_get (l := vs) (i := i) (by rw [h.len.1]; exact hi')
  obtain ⟨p', hp'⟩ := lt_get (l := vs) (i := j) (by rw [h.len.1]; exact hj)
  obtain ⟨c1, c2, i1, i2⟩ := h.at_ i nd p hnd hp
  obtain ⟨c1', c2', i1', i2'⟩ := h.at_ j nd' p' hnd' hp'
  have hb := h.box
  have e1 : M.getD i ([], []) = nd := by rw [List.getD_eq_getElem?_getD, hnd]; rfl
  have e2 : M.getD j ([], []) = nd' := by rw [List.getD_eq_getElem?_getD, hnd']; rfl
  rw [e1, e2]
  have C := Lib.hid fun (W : World) (hW : Below w.heap.size w W) => cmpOptsG_calls p.1 p.2 p'.1 p'.2 nd nd' W lo hi lo hi (Nat.le_trans hh hW.size) (Nat.le_trans hh hW.size) (i1.below hW hh) (i2.below hW hh) (i1'.below hW hh) (i2'.below hW hh)
  have x0 : (0 : Int) ≤ i := by omega
  have x1 : (i : Int) < n := by omega
  have y0 : (0 : Int) ≤ j := by omega
  have y1 : (j : Int) < n := by omega
  clear h hnd hnd' hp hp' i1 i2 i1' i2' e1 e2
  go_enter Try.func87, Try.ntmps87
  go_wp2
  have HW := Lib.hid (below_drewN (RowKit.Below.refl w.heap.size w) 1)
  have HG := Lib.hid (Grew.refl w).drew
  go_still_tail 8, (by kernel_rfl)
  repeat still_step
  go_wp2_with fail
  refine (C.out _ HW.out).mono ?_
  rintro e w4 ⟨rfl, hg⟩
  go_wp2_with fail
  go_ret
  obtain ⟨q, os, rfl⟩ := hg
  exact ⟨rfl, 1 + q, os, by cases w; simp [grow, World.drewN, World.drew, Nat.add_assoc]⟩
end
section
open Go.RowKit Go.Sort
set_option linter.unusedVariables false
set_option linter.unusedSimpArgs false
/-- the lists of nodes, each in a block of its own -/
structure OwnL (w : World) (base : Nat) (vs : List (Value × Value)) (f : List Nz) : Prop where
  len : vs.length = f.length
  list : ∀ (j : Nat) (nd : Nz) (p : Value × Value), f[j]? = some nd → vs[j]? = some p → OwnI w base p.1 nd.1 ∧ OwnI w base p.2 nd.2
  two : ∀ (j : Nat) (p : Value × Value), vs[j]? = some p → Apart p.1 p.2
  sep : ∀ (i j : Nat) (p q : Value × Value), i ≠ j → vs[i]? = some p → vs[j]? = some q → Apart p.1 q.1 ∧ Apart p.1 q.2 ∧ Apart p.2 q.1 ∧ Apart p.2 q.2
theorem OwnL.only {w w' : World} {base : Nat} {vs : List (Value × Value)} {f : List Nz} {F : Nat → Prop} (h : OwnL w base vs f) (ho : Only w w' F) (hn : ∀ (j : Nat) (p : Value × Value) (g : Nat), vs[j]? = some p → (p.1.ownBlock = some g ∨ p.2.ownBlock = some g) → ¬ F g) : OwnL w' base vs f :=
  ⟨h.len, fun j nd p h1 h2 => ⟨(h.list j nd p h1 h2).1.only ho (fun g hg => hn j p g h2 (Or.inl hg)), (h.list j nd p h1 h2).2.only ho (fun g hg => hn j p g h2 (Or.inr hg))⟩, h.two, h.sep⟩
theorem OwnL.lt {w : World} {base : Nat} {vs : List (Value × Value)} {f : List Nz} (h : OwnL w base vs f) {j : Nat} {p : Value × Value} {g : Nat} (hp : vs[j]? = some p) (hg : p.1.ownBlock = some g ∨ p.2.ownBlock = some g) : base ≤ g ∧ g < w.heap.size := by
  obtain ⟨nd, hnd⟩ := lt_get (l := f) (i := j) (by rw [← h.len]; exact get_lt hp)
  have := h.list j nd p hnd hp
  rcases hg with hg | hg
  · exact this.1.lt g hg
  · exact this.2.lt g hg
theorem OwnL.set {w w' : World} {base j : Nat} {vs : List (Value × Value)} {f : List Nz} {nd : Nz} {p : Value × Value} (h : OwnL w base vs f) (hb : Below w.heap.size w w') (hbase : base ≤ w.heap.size)
    (h1 : OwnI w' w.heap.size p.1 nd.1) (h2 : OwnI w' w.heap.size p.2 nd.2) (ha : Apart p.1 p.2) : OwnL w' base (vs.set j p) (f.set j nd) := by
  have ho := Only.of_below (F := fun _ => False) hb
  have far : ∀ (i : Nat) (q : Value × Value), vs[i]? = some q → (Apart p.1 q.1 ∧ Apart p.1 q.2) ∧ (Apart p.2 q.1 ∧ Apart p.2 q.2) := fun i q hq =>
    ⟨⟨fun g e1 e2 => by have := h1.lt g e1; have := h.lt hq (Or.inl e2); omega, fun g e1 e2 => by have := h1.lt g e1; have := h.lt hq (Or.inr e2); omega⟩,
      ⟨fun g e1 e2 => by have := h2.lt g e1; have := h.lt hq (Or.inl e2); omega, fun g e1 e2 => by have := h2.lt g e1; have := h.lt hq (Or.inr e2); omega⟩⟩
  refine ⟨by rw [List.length_set, List.length_set]; exact h.len, fun i n0 q hi hq => ?_, fun i q hq => ?_, fun i k q r hne hq hr => ?_⟩
  · rcases set_get hi with ⟨rfl, rfl⟩ | ⟨hne, hi⟩
    · rcases set_get hq with ⟨_, rfl⟩ | ⟨e, _⟩
      · exact ⟨h1.mono hbase, h2.mono hbase⟩
      · exact absurd rfl e
    · rcases set_get hq with ⟨e, _⟩ | ⟨_, hq⟩
      · exact absurd e hne
      · have := h.list i n0 q hi hq
        exact ⟨this.1.only ho (fun _ _ => id), this.2.only ho (fun _ _ => id)⟩
  · rcases set_get hq with ⟨rfl, rfl⟩ | ⟨_, hq⟩
    · exact ha
    · exact h.two i q hq
  · rcases set_get hq with ⟨e1, e2⟩ | ⟨h3, hq2⟩
    · rcases set_get hr with ⟨e3, _⟩ | ⟨h4, hr2⟩
      · exact absurd (e1.trans e3.symm) hne
      · rw [e2]
        have := far k r hr2
        exact ⟨this.1.1, this.1.2, this.2.1, this.2.2⟩
    · rcases set_get hr with ⟨e3, e4⟩ | ⟨h4, hr2⟩
      · rw [e4]
        have := far i q hq2
        exact ⟨this.1.1.symm, this.2.1.symm, this.1.2.symm, this.2.2.symm⟩
      · exact h.sep i k q r hne hq2 hr2
def nilP : Value × Value := (.slice none 0 0, .slice none 0 0)
theorem getD_atP {vs : List (Value × Value)} {i : Nat} {p : Value × Value} (h : vs[i]? = some p) : vs.getD i nilP = p := by rw [List.getD_eq_getElem?_getD, h]; rfl
theorem getD_atN {f : List Nz} {i : Nat} {p : Nz} (h : f[i]? = some p) : f.getD i ([], []) = p := by rw [List.getD_eq_getElem?_getD, h]; rfl
/-- some of the nodes, each once, in a row of their own -/
theorem OwnF.of_pick {w : World} {base : Nat} {v : Value} {vs : List (Value × Value)} {f : List Nz} {idx : List Nat} (h : OwnL w base vs f) (hr : w.ownsRow base 57 2 v idx.length (rowN2 (idx.map (fun i => vs.getD i nilP))))
    (ha : ∀ (j : Nat) (p : Value × Value), vs[j]? = some p → Apart v p.1 ∧ Apart v p.2) (hi : ∀ i ∈ idx, i < f.length) (hn : idx.Nodup) : OwnF w base v (idx.map (fun i => vs.getD i nilP)) (idx.map (fun i => f.getD i ([], []))) := by
  have key : ∀ (j : Nat) (q : Value × Value), (idx.map (fun i => vs.getD i nilP))[j]? = some q → ∃ i nd, idx[j]? = some i ∧ vs[i]? = some q ∧ f[i]? = some nd := fun j q hq => by
    rw [List.getElem?_map] at hq
    cases hx : idx[j]? with
    | none => rw [hx] at hq; cases hq
    | some i =>
      rw [hx] at hq
      have hl := hi i (List.mem_of_getElem? hx)
      obtain ⟨p, hp⟩ := lt_get (l := vs) (i := i) (by rw [h.len]; exact hl)
      obtain ⟨nd, hnd⟩ := lt_get hl
      simp only [Option.map_some, Option.some.injEq] at hq
      rw [getD_atP hp] at hq
      subst hq
      exact ⟨i, nd, rfl, hp, hnd⟩
  refine ⟨by rw [List.length_map]; exact hr, by simp, fun j nd q hj hq => ?_, fun j q hq => ?_, fun i j p q hne hp hq => ?_⟩
  · obtain ⟨i, nd', h1, h2, h3⟩ := key j q hq
    rw [List.getElem?_map, h1] at hj
    simp only [Option.map_some, Option.some.injEq] at hj
    rw [getD_atN h3] at hj
    subst hj
    exact h.list i nd' q h3 h2
  · obtain ⟨i, nd', h1, h2, h3⟩ := key j q hq
    exact ⟨h.two i q h2, ha i q h2⟩
  · obtain ⟨i', _, h1, h2, _⟩ := key i p hp
    obtain ⟨j', _, h4, h5, _⟩ := key j q hq
    refine h.sep i' j' p q (fun e => ?_) h2 h5
    subst e
    have hil := get_lt h1
    have hjl := get_lt h4
    rw [List.getElem?_eq_getElem hil] at h1
    rw [List.getElem?_eq_getElem hjl] at h4
    injection h1 with h1
    injection h4 with h4
    exact hne ((List.getElem_inj hn).1 (h1.trans h4.symm))
structure InS (w0 wr : World) (gm pb n S4 : Nat) (Q : List Nat) (M : List Nd) (vs : List (Value × Value)) (idx : List Nat) (v : Value) : Prop where
  below : Below w0.heap.size w0 wr
  s4 : w0.heap.size < gm ∧ gm < pb ∧ pb < S4
  size : S4 ≤ wr.heap.size
  places : OwnI wr w0.heap.size (.slice (some ⟨w0.heap.size, 0, none⟩) n n) (upL Q)
  box : BoxAt wr (pb) (.slice (some ⟨gm, 0, none⟩) n n)
  row : wr.ownsRow w0.heap.size 57 2 (.slice (some ⟨gm, 0, none⟩) n n) n (rowN2 vs)
  lists : OwnL wr S4 vs (M.map upN)
  srt : wr.ownsRow S4 57 2 v idx.length (rowN2 (idx.map (fun i => vs.getD i nilP)))
  apart : ∀ (j : Nat) (p : Value × Value), vs[j]? = some p → Apart v p.1 ∧ Apart v p.2
  mlen : M.length = n
  qlen : Q.length = n
  idxlt : ∀ i ∈ idx, i < n
  nodup : idx.Nodup
/-- what is written lies in the days -/
theorem InS.only {w0 wr w' : World} {gm pb n S4 : Nat} {Q : List Nat} {M : List Nd} {vs : List (Value × Value)} {idx : List Nat} {v : Value} {F : Nat → Prop} (h : InS w0 wr gm pb n S4 Q M vs idx v) (ho : Only wr w' F) (hF : ∀ b, F b → pb < b ∧ b < S4) : InS w0 w' gm pb n S4 Q M vs idx v where
  below := h.below.trans (ho.below h.below.size (fun g hg => by have := hF g hg; have := h.s4; omega))
  s4 := h.s4
  size := Nat.le_trans h.size ho.size
  places := h.places.only ho (fun g e hg => by have := own_eqp e; have := hF g hg; have := h.s4; omega)
  box := h.box.only ho (fun hg => by have := hF _ hg; have := h.s4; omega)
  row := own_only h.row ho (fun g e hg => by have := own_eqp e; have := hF g hg; have := h.s4; omega)
  lists := h.lists.only ho (fun j p g hp hg hg' => by have := h.lists.lt hp hg; have := hF g hg'; have := h.s4; omega)
  srt := own_only h.srt ho (fun g e hg => by have := World.ownsRow.lt h.srt g e; have := hF g hg; have := h.s4; omega)
  apart := h.apart
  mlen := h.mlen
  qlen := h.qlen
  idxlt := h.idxlt
  nodup := h.nodup
theorem InS.below' {w0 wr w' : World} {gm pb n S4 : Nat} {Q : List Nat} {M : List Nd} {vs : List (Value × Value)} {idx : List Nat} {v : Value} (h : InS w0 wr gm pb n S4 Q M vs idx v) (hb : Below wr.heap.size wr w') : InS w0 w' gm pb n S4 Q M vs idx v :=
  h.only (Only.of_below (F := fun _ => False) hb) (fun _ h => h.elim)
theorem map_getD_set {α : Type} (vs : List α) (idx : List Nat) (i : Nat) (p d : α) (h : i ∉ idx) : idx.map (fun k => (vs.set i p).getD k d) = idx.map (fun k => vs.getD k d) := by
  apply List.map_congr_left
  intro k hk
  have hne : i ≠ k := fun e => h (e ▸ hk)
  rw [List.getD_eq_getElem?_getD, List.getD_eq_getElem?_getD, List.getElem?_set_ne hne]
/-- a node is moved -/
theorem InS.setM {w0 wr w' : World} {gm pb n S4 i : Nat} {Q : List Nat} {M : List Nd} {vs : List (Value × Value)} {idx : List Nat} {v : Value} {nd : Nd} {p : Value × Value} (h : InS w0 wr gm pb n S4 Q M vs idx v) (hb : Below wr.heap.size wr w')
    (h1 : OwnI w' wr.heap.size p.1 (upL nd.1)) (h2 : OwnI w' wr.heap.size p.2 (upL nd.2)) (ha : Apart p.1 p.2) (hi : i ∉ idx) :
    InS w0 ((w'.setCell ⟨gm, i * 2, none⟩ p.1).setCell ⟨gm, i * 2 + 1, none⟩ p.2) gm pb n S4 Q (M.set i nd) (vs.set i p) idx v := by
  have h' := h.below' hb
  have s1 := World.ownsRow.stored h'.row (i * 2) p.1
  have s2 := World.ownsRow.stored s1.1 (i * 2 + 1) p.2
  rw [rowN2_set] at s2
  have ho : Only w' ((w'.setCell ⟨gm, i * 2, none⟩ p.1).setCell ⟨gm, i * 2 + 1, none⟩ p.2) (fun b => b = gm) :=
    (Only.of_set (F := fun b => b = gm) (p := ⟨gm, i * 2, none⟩) p.1 rfl).trans (Only.of_set (F := fun b => b = gm) (p := ⟨gm, i * 2 + 1, none⟩) p.2 rfl) (fun _ _ e => e)
  have hl := h.lists.set (j := i) (nd := upN nd) hb h.size h1 h2 ha
  have hs4 := h.s4
  refine ⟨h'.below.trans (ho.below h'.below.size (fun g hg => by omega)), h.s4, Nat.le_trans h'.size ho.size, h'.places.only ho (fun g e hg => by have := own_eqp e; omega), h'.box.only ho (fun hg => by omega), s2.1, ?_, ?_, fun j q hq => ?_, by rw [List.length_set]; exact h.mlen, h.qlen, h.idxlt, h.nodup⟩
  · rw [List.map_set]
    exact hl.only ho (fun j q g hq hg hg' => by have := hl.lt hq hg; omega)
  · rw [map_getD_set _ _ _ _ _ hi]
    exact own_only h'.srt ho (fun g e hg => by have := World.ownsRow.lt h'.srt g e; omega)
  · rcases set_get hq with ⟨_, rfl⟩ | ⟨_, hq⟩
    · exact ⟨fun g e1 e2 => by have := World.ownsRow.lt h.srt g e1; have := h1.lt g e2; omega, fun g e1 e2 => by have := World.ownsRow.lt h.srt g e1; have := h2.lt g e2; omega⟩
    · exact h.apart j q hq
/-- a node is put behind the sorted ones -/
theorem InS.push {w0 wr w' : World} {gm pb n S4 i : Nat} {Q : List Nat} {M : List Nd} {vs : List (Value × Value)} {idx : List Nat} {v v' : Value} {p : Value × Value} (h : InS w0 wr gm pb n S4 Q M vs idx v) (hg : wr.grownBy w' v.ownBlock)
    (hn : w'.ownsRow S4 57 2 v' (idx.length + 1) (rowN2 (idx.map (fun i => vs.getD i nilP)) ++ [p.1, p.2])) (hat : v'.ownBlock = v.ownBlock ∨ v'.ownBlock = some wr.heap.size) (hp : vs[i]? = some p) (hi : i ∉ idx) :
    InS w0 w' gm pb n S4 Q M vs (idx ++ [i]) v' := by
  have ho : Only wr w' (fun b => v.ownBlock = some b) := Only.of_grown hg (fun g e => e)
  have hv : ∀ b, v.ownBlock = some b → S4 ≤ b := fun b e => (World.ownsRow.lt h.srt b e).1
  have hs4 := h.s4
  have hsz := h.size
  refine ⟨h.below.trans (ho.below h.below.size (fun b hb => by have := hv b hb; omega)), h.s4, Nat.le_trans h.size ho.size, h.places.only ho (fun g e hg => by have := own_eqp e; have := hv g hg; omega), h.box.only ho (fun hg => by have := hv _ hg; omega),
    own_only h.row ho (fun g e hg => by have := own_eqp e; have := hv g hg; omega), h.lists.only ho (fun j q g hq hg hg' => by rcases hg with e | e; exact (h.apart j q hq).1 g hg' e; exact (h.apart j q hq).2 g hg' e), ?_, fun j q hq => ?_, h.mlen, h.qlen, fun k hk => ?_, ?_⟩
  · rw [List.map_append, List.map_singleton, getD_atP hp, rowN2_snoc, List.length_append]
    exact hn
  · have := h.apart j q hq
    rcases hat with e | e
    · exact ⟨fun g e1 e2 => this.1 g (e ▸ e1) e2, fun g e1 e2 => this.2 g (e ▸ e1) e2⟩
    · exact ⟨fun g e1 e2 => by rw [e] at e1; injection e1 with e1; have := h.lists.lt hq (Or.inl e2); omega, fun g e1 e2 => by rw [e] at e1; injection e1 with e1; have := h.lists.lt hq (Or.inr e2); omega⟩
  · rcases List.mem_append.1 hk with hk | hk
    · exact h.idxlt k hk
    · simp only [List.mem_singleton] at hk
      subst hk
      have := get_lt hp
      have := h.lists.len
      have := h.mlen
      simp at *
      omega
  · rw [List.nodup_append]
    exact ⟨h.nodup, by simp, fun a ha b hb e => by simp only [List.mem_singleton] at hb; subst hb; subst e; exact hi ha⟩
/-- a place is told -/
theorem InS.setQ {w0 wr : World} {gm pb n S4 i k : Nat} {Q : List Nat} {M : List Nd} {vs : List (Value × Value)} {idx : List Nat} {v : Value} (h : InS w0 wr gm pb n S4 Q M vs idx v) :
    InS w0 (wr.setCell ⟨w0.heap.size, i, none⟩ (.int .i64 (k : Int))) gm pb n S4 (Q.set i k) M vs idx v := by
  have hs4 := h.s4
  have P := h.places.put (x := i) (v := (k : Int))
  rw [upL_set] at P
  have ho : Only wr (wr.setCell ⟨w0.heap.size, i, none⟩ (.int .i64 (k : Int))) (fun b => b = w0.heap.size) := Only.of_set _ rfl
  exact ⟨h.below.trans (ho.below h.below.size (fun g hg => by omega)), h.s4, Nat.le_trans h.size ho.size, P.1, h.box.only ho (fun hg => by omega), own_only h.row ho (fun g e hg => by have := own_eqp e; omega),
    h.lists.only ho (fun j q g hq hg hg' => by have := h.lists.lt hq hg; omega), own_only h.srt ho (fun g e hg => by have := World.ownsRow.lt h.srt g e; omega), h.apart, h.mlen, by rw [List.length_set]; exact h.qlen, h.idxlt, h.nodup⟩
/-- a moved node's two lists -/
theorem InS.node {w0 wr : World} {gm pb n S4 i : Nat} {Q : List Nat} {M : List Nd} {vs : List (Value × Value)} {idx : List Nat} {v : Value} (h : InS w0 wr gm pb n S4 Q M vs idx v) (hi : i < n) :
    ∃ p nd, vs[i]? = some p ∧ M[i]? = some nd ∧ wr.cell? ⟨gm, i * 2, none⟩ = some p.1 ∧ wr.cell? ⟨gm, i * 2 + 1, none⟩ = some p.2 ∧ wr.frozen? ⟨gm, i * 2, none⟩ = false ∧ wr.frozen? ⟨gm, i * 2 + 1, none⟩ = false ∧ OwnI wr S4 p.1 (upL nd.1) ∧ OwnI wr S4 p.2 (upL nd.2) := by
  have hml := h.mlen
  obtain ⟨nd, hnd⟩ := lt_get (l := M) (i := i) (by omega)
  have hll := h.lists.len
  rw [List.length_map] at hll
  obtain ⟨p, hp⟩ := lt_get (l := vs) (i := i) (by omega)
  have hr := rowN2_at vs i p hp
  have hl := h.lists.list i (upN nd) p (by rw [List.getElem?_map, hnd]; rfl) hp
  refine ⟨p, nd, hp, hnd, ?_, ?_, World.ownsRow.frozenAt h.row _, World.ownsRow.frozenAt h.row _, hl.1, hl.2⟩
  · rw [World.ownsRow.cellAt h.row (i * 2) (by omega)]; exact hr.1
  · rw [World.ownsRow.cellAt h.row (i * 2 + 1) (by omega)]; exact hr.2
theorem InS.cmpAt {w0 wr : World} {gm pb n S4 : Nat} {Q : List Nat} {M : List Nd} {vs : List (Value × Value)} {idx : List Nat} {v : Value} (h : InS w0 wr gm pb n S4 Q M vs idx v) :
    CmpAt wr pb gm n n vs (M.map upN) S4 wr.heap.size := by
  have hml := h.mlen
  have hll := h.lists.len
  rw [List.length_map] at hll
  refine ⟨h.box.1, ⟨by omega, by rw [List.length_map]; exact hml, Nat.le_refl _⟩, fun j nd p hj hp => ?_⟩
  have hr := rowN2_at vs j p hp
  have hl := h.lists.list j nd p hj hp
  have := get_lt hp
  refine ⟨?_, ?_, hl.1.ints, hl.2.ints⟩
  · rw [World.ownsRow.cellAt h.row (j * 2) (by omega)]; exact hr.1
  · rw [World.ownsRow.cellAt h.row (j * 2 + 1) (by omega)]; exact hr.2
/-- the last one of the sorted -/
theorem InS.last {w0 wr : World} {gm pb n S4 : Nat} {Q : List Nat} {M : List Nd} {vs : List (Value × Value)} {idx : List Nat} {v : Value} (h : InS w0 wr gm pb n S4 Q M vs idx v) (hi : 0 < idx.length) :
    ∃ i g c p nd, idx[idx.length - 1]? = some i ∧ v = .slice (some ⟨g, 0, none⟩) idx.length c ∧ vs[i]? = some p ∧ M[i]? = some nd ∧ wr.cell? ⟨g, (idx.length - 1) * 2, none⟩ = some p.1 ∧ wr.cell? ⟨g, (idx.length - 1) * 2 + 1, none⟩ = some p.2 ∧ OwnI wr S4 p.1 (upL nd.1) ∧ OwnI wr S4 p.2 (upL nd.2) := by
  obtain ⟨i, hx⟩ := lt_get (l := idx) (i := idx.length - 1) (by omega)
  have hin := h.idxlt i (List.mem_of_getElem? hx)
  obtain ⟨p, nd, hp, hnd, _, _, _, _, i1, i2⟩ := h.node hin
  have hr := h.srt
  obtain ⟨a, c, rfl⟩ := own_form' hr
  rcases hr.2 with ⟨h1, h0⟩ | ⟨g, c', cs, h1, _⟩
  · omega
  · injection h1 with h1 _ _
    subst h1
    have hq := rowN2_at (idx.map (fun i => vs.getD i nilP)) (idx.length - 1) p (by rw [List.getElem?_map, hx]; simp only [Option.map_some]; rw [getD_atP hp])
    refine ⟨i, g, c, p, nd, hx, rfl, hp, hnd, ?_, ?_, i1, i2⟩
    · rw [World.ownsRow.cellAt hr ((idx.length - 1) * 2) (by omega)]; exact hq.1
    · rw [World.ownsRow.cellAt hr ((idx.length - 1) * 2 + 1) (by omega)]; exact hq.2
end
section
open Go.RowKit Go.Sort Go.Shelf
set_option linter.unusedVariables false
set_option linter.unusedSimpArgs false
/-- numbers below n, as they lie in memory -/
def encF {n : Nat} (i : Fin n) : Value := .int .i64 ((i.val : Nat) : Int)
theorem encF_one {n : Nat} : OneCell (encF (n := n)) := fun _ => rfl
theorem putRow_fin {n : Nat} [Inhabited (Fin n)] (w : World) (g off : Nat) (d : Array (Fin n)) : putRow encF w g off d = putRow (Value.int .i64) w g off (d.map (fun i => ((i.val : Nat) : Int))) := by
  unfold putRow
  congr 1
  funext c
  unfold putCells
  apply Array.ext_getElem?
  intro k
  simp only [Array.getElem?_mapIdx, Array.size_map]
  cases c[k]? with
  | none => rfl
  | some y =>
    simp only [Option.map_some]
    by_cases h : off ≤ k ∧ k < off + d.size
    · rw [if_pos h, if_pos h]
      have hk : k - off < d.size := by omega
      rw [getElem!_pos d (k - off) hk, getElem!_pos (d.map _) (k - off) (by simpa using hk)]
      simp [encF]
    · rw [if_neg h, if_neg h]
theorem ltNd_false {a b c : Nd} (h1 : ltNd a b = false) (h2 : ltNd b c = false) : ltNd a c = false := by
  cases h : ltNd a c with
  | false => rfl
  | true =>
    rcases ltNd_tri a b with h3 | h3 | h3
    · rw [h3] at h1; cases h1
    · subst h3; rw [h] at h2; cases h2
    · have := ltNd_trans b a c h3 h
      rw [this] at h2; cases h2
/-- the comparing of the nodes at two places -/
def cfM (M : List Nd) {n : Nat} (i j : Fin n) : Int := cmpNd ((M.map upN).getD i.val ([], [])) ((M.map upN).getD j.val ([], []))
theorem upN_getD (M : List Nd) (i : Nat) : (M.map upN).getD i ([], []) = upN (M.getD i ([], [])) := by
  rw [List.getD_eq_getElem?_getD, List.getD_eq_getElem?_getD, List.getElem?_map]
  cases M[i]? <;> rfl
theorem ltOf_cf (M : List Nd) {n : Nat} (i j : Fin n) : ltOf (cfM M) i j = ltNd (M.getD i.val ([], [])) (M.getD j.val ([], [])) := by
  unfold ltOf cfM
  rw [upN_getD, upN_getD]
  have := cmpNd_up (M.getD i.val ([], [])) (M.getD j.val ([], []))
  by_cases h : cmpNd (upN (M.getD i.val ([], []))) (upN (M.getD j.val ([], []))) < 0
  · rw [decide_eq_true h, this.1 h]
  · rw [decide_eq_false h]
    cases h2 : ltNd (M.getD i.val ([], [])) (M.getD j.val ([], [])) with
    | false => rfl
    | true => exact absurd (this.2 h2) h
theorem swo_cf (M : List Nd) {n : Nat} : SWO (ltOf (cfM M (n := n))) where
  irrefl x := by rw [ltOf_cf]; exact ltNd_irrefl _
  trans x y z h1 h2 := by rw [ltOf_cf] at *; exact ltNd_trans _ _ _ h1 h2
  ntrans x y z h1 h2 := by rw [ltOf_cf] at *; exact ltNd_false h1 h2
theorem CmpAt.only {w w' : World} {pb gm n cm : Nat} {vs : List (Value × Value)} {M : List Nz} {lo hi : Nat} {F : Nat → Prop} (h : CmpAt w pb gm n cm vs M lo hi) (ho : Only w w' F) (hh : hi ≤ w.heap.size) (h1 : ¬ F pb) (h2 : ¬ F gm) (h3 : ∀ b, lo ≤ b → b < hi → ¬ F b) : CmpAt w' pb gm n cm vs M lo hi :=
  ⟨(ho.cell (block_of_cell h.box) h1).trans h.box, h.len, fun j nd p hj hp => by
    obtain ⟨c1, c2, i1, i2⟩ := h.at_ j nd p hj hp
    have hs : SameIn lo hi w w' := fun b o e1 e2 => ho.cell (by omega) (h3 b e1 e2)
    exact ⟨(ho.cell (block_of_cell c1) h2).trans c1, (ho.cell (block_of_cell c1) h2).trans c2, i1.keep hs, i2.keep hs⟩⟩
theorem perm_in {α : Type} [Inhabited α] {d d' : Array α} (h : PermIn 0 d.size d d') : d'.toList.Perm d.toList := by
  obtain ⟨h1, _, h3⟩ := h
  have e1 : (d'.extract 0 d.size) = d' := by rw [← h1]; exact Array.extract_size
  have e2 : (d.extract 0 d.size) = d := Array.extract_size
  rwa [e1, e2] at h3
theorem sorted_in {α : Type} [Inhabited α] {lt : α → α → Bool} {d : Array α} {n : Nat} (hn : d.size = n) (h : SortedIn lt 0 n d) : d.toList.Pairwise (fun a b => lt b a = false) := by
  rw [List.pairwise_iff_getElem]
  intro i j hi hj hij
  have hi' : i < d.size := by simpa using hi
  have hj' : j < d.size := by simpa using hj
  have := h i j (Nat.zero_le _) hij (by omega)
  rw [getElem!_pos d i hi', getElem!_pos d j hj'] at this
  simpa using this
set_option maxHeartbeats 1000000 in
theorem sortDay_calls (D : List Nat) (M : List Nd) (w : World) (base g c pb gm n cm : Nat) (vs : List (Value × Value)) (lo hi : Nat) (ho : OwnI w base (.slice (some ⟨g, 0, none⟩) D.length c) (upL D)) (h : CmpAt w pb gm n cm vs (M.map upN) lo hi) (hh : hi ≤ w.heap.size)
    (hD : ∀ x ∈ D, x < n) (h1 : g ≠ pb) (h2 : g ≠ gm) (h3 : g < lo ∨ hi ≤ g) (hn : n ≤ 1000000) (hl : D.length ≤ 1000000) (h0 : 0 < n) :
    Calls Try.prog 86 #[.slice (some ⟨g, 0, none⟩) D.length c, .func (.func 87) #[] #[.pointer (some ⟨pb, 0, none⟩)]] w fun e w' => e = .returned (.tuple #[]) ∧ ∃ D', D'.Perm D ∧ D'.Pairwise (fun a b => ltNd (M.getD b ([], [])) (M.getD a ([], [])) = false) ∧
      OwnI w' base (.slice (some ⟨g, 0, none⟩) D.length c) (upL D') ∧ w.grownBy w' (some g) := by
  haveI : Inhabited (Fin n) := ⟨⟨0, h0⟩⟩
  have hul : (upL D).length = D.length := upL_len D
  rw [← hul] at ho
  obtain ⟨cur, hb, c1, c2, c3, ht, hbase, _⟩ := ho.cur
  have hhold := holds_of_blockI hb ht
  obtain ⟨DF, hDF⟩ : ∃ DF : List (Fin n), DF.map (fun i => i.val) = D := ⟨D.pmap (fun x hx => ⟨x, hx⟩) hD, by rw [List.map_pmap]; simp⟩
  have hup : upL D = DF.map (fun i => ((i.val : Nat) : Int)) := by rw [← hDF]; unfold upL; rw [List.map_map]; rfl
  have hDFl : DF.length = D.length := by rw [← hDF]; simp
  have hH : Holds encF w g 0 DF.toArray := fun j hj => by
    have hj' : j < DF.length := by simpa using hj
    have := hhold j (by rw [List.size_toArray, hul, ← hDFl]; exact hj')
    refine ⟨?_, this.2⟩
    rw [this.1, getElem!_pos _ j (by simpa [hul, ← hDFl] using hj'), getElem!_pos _ j (by simpa using hj')]
    simp [hup, encF]
  have eg : ∀ args w, (callFunc 87 args).run Try.prog w = .ok (.enter 87 args) w := enters_of Try.func87 (by kernel_rfl) rfl
  have hcmp : CmpLays1 Try.prog 87 #[.pointer (some ⟨pb, 0, none⟩)] encF (cfM M (n := n)) g 0 DF.toArray.size w := fun m os dk hs x y => by
    have hg : w.grownBy (sortWorld encF w g 0 m dk os) (some g) := by
      unfold sortWorld
      rw [putRow_fin]
      exact grownBy_sortedI _
    have ho2 : Only w (sortWorld encF w g 0 m dk os) (fun b => b = g) := Only.of_grown hg (fun q e => by injection e with e; exact e.symm)
    have hc := h.only ho2 hh (fun e => h1 e.symm) (fun e => h2 e.symm) (fun b e1 e2 e3 => by omega)
    exact closure_calls x.val y.val _ pb gm n cm vs (M.map upN) lo hi (Nat.le_trans hh ho2.size) hc x.isLt y.isLt hn
  have hcon := Any.slices_SortFunc Try.sortF encF encF_one (cfM M (n := n)) (swo_cf M) 87 #[.pointer (some ⟨pb, 0, none⟩)] g 0 c DF.toArray w eg hcmp hH (ho.lt g rfl).2 (by simp; omega)
  change Calls Try.prog 86 _ _ _ at hcon
  have es : DF.toArray.size = D.length := by simp [hDFl]
  rw [es] at hcon
  refine hcon.mono ?_
  rintro e w' ⟨rfl, d', q, os, hp, hs, rfl⟩
  rw [← es] at hp hs
  have hperm := perm_in hp
  have hsz : d'.size = DF.toArray.size := hp.1
  have hpl : (d'.toList.map (fun i => i.val)).Perm D := by
    have := hperm.map (fun i => i.val)
    rw [List.toList_toArray, hDF] at this
    exact this
  have hul' : upL (d'.toList.map (fun i => i.val)) = d'.toList.map (fun i => ((i.val : Nat) : Int)) := by unfold upL; rw [List.map_map]; rfl
  have hlen' : (d'.toList.map (fun i => ((i.val : Nat) : Int))).length = (upL D).length := by simp [hul, hsz, hDFl]
  have harr : d'.map (fun i => ((i.val : Nat) : Int)) = (d'.toList.map (fun i => ((i.val : Nat) : Int))).toArray := by
    apply Array.ext'
    simp
  refine ⟨rfl, d'.toList.map (fun i => i.val), hpl, ?_, ?_, ?_⟩
  · rw [List.pairwise_map]
    refine (sorted_in hsz hs).imp fun {a b} hab => ?_
    rwa [ltOf_cf] at hab
  · unfold sortWorld
    rw [putRow_fin, harr, hul']
    have := ownsRow_sortedI (n := q) (os := os) hlen' hbase hb c1 c2 c3
    unfold OwnI
    rw [hlen', ← hul]
    exact this
  · unfold sortWorld
    rw [putRow_fin]
    exact grownBy_sortedI _
end
section
open Go.RowKit
set_option linter.unusedVariables false
set_option linter.unusedSimpArgs false
/-- a list is sorted where it lies -/
theorem OwnR.sorted {w w1 : World} {base j : Nat} {v : Value} {vs : List Value} {ls : List (List Int)} {l l' : List Int} {p : Value} (h : OwnR w base v vs ls) (hj : ls[j]? = some l) (hp : vs[j]? = some p)
    (ho : Only w w1 (fun b => p.ownBlock = some b)) (hl : OwnI w1 base p l') : OwnR w1 base v vs (ls.set j l') := by
  refine ⟨by rw [List.length_set]; exact own_only h.rows ho (fun b h1 h2 => h.two j p hp b h1 h2), by rw [List.length_set]; exact h.len, fun i l0 q hi hq => ?_, h.two, h.sep⟩
  rcases set_get hi with ⟨rfl, rfl⟩ | ⟨hne, hi⟩
  · rw [hp] at hq
    injection hq with hq
    subst hq
    exact hl
  · exact (h.list i l0 q hi hq).only ho (fun b e1 e2 => h.sep i j q p hne hq hp b e1 e2)
structure DaysAt (w : World) (B3 S4 : Nat) (v : Value) (vds : List Value) (L L' : List (List Nat)) (d : Nat) : Prop where
  own : OwnR w B3 v vds (L'.map upL)
  len : L'.length = L.length
  rest : ∀ e, d ≤ e → L'[e]? = L[e]?
  blk : ∀ (j : Nat) (p : Value) (g : Nat), vds[j]? = some p → p.ownBlock = some g → B3 ≤ g ∧ g < S4
  vblk : ∀ g, v.ownBlock = some g → B3 ≤ g ∧ g < S4
theorem DaysAt.only {w w' : World} {B3 S4 : Nat} {v : Value} {vds : List Value} {L L' : List (List Nat)} {d : Nat} {F : Nat → Prop} (h : DaysAt w B3 S4 v vds L L' d) (ho : Only w w' F) (hF : ∀ b, F b → b < B3 ∨ S4 ≤ b) : DaysAt w' B3 S4 v vds L L' d :=
  ⟨⟨own_only h.own.rows ho (fun g e hg => by have := h.vblk g e; have := hF g hg; omega), h.own.len, fun j l p h1 h2 => (h.own.list j l p h1 h2).only ho (fun g e hg => by have := h.blk j p g h2 e; have := hF g hg; omega), h.own.two, h.own.sep⟩, h.len, h.rest, h.blk, h.vblk⟩
theorem DaysAt.below {w w' : World} {B3 S4 : Nat} {v : Value} {vds : List Value} {L L' : List (List Nat)} {d : Nat} (h : DaysAt w B3 S4 v vds L L' d) (hb : Below w.heap.size w w') : DaysAt w' B3 S4 v vds L L' d :=
  h.only (Only.of_below (F := fun _ => False) hb) (fun _ h => h.elim)
theorem DaysAt.next {w : World} {B3 S4 : Nat} {v : Value} {vds : List Value} {L L' : List (List Nat)} {d : Nat} (h : DaysAt w B3 S4 v vds L L' d) : DaysAt w B3 S4 v vds L L' (d + 1) := ⟨h.own, h.len, fun e he => h.rest e (by omega), h.blk, h.vblk⟩
/-- the day at hand -/
theorem DaysAt.get {w : World} {B3 S4 : Nat} {v : Value} {vds : List Value} {L L' : List (List Nat)} {d : Nat} {l : List Nat} (h : DaysAt w B3 S4 v vds L L' d) (hd : L[d]? = some l) (hne : l ≠ []) :
    ∃ gv cv g c, v = .slice (some ⟨gv, 0, none⟩) L.length cv ∧ vds[d]? = some (.slice (some ⟨g, 0, none⟩) l.length c) ∧ w.cell? ⟨gv, d, none⟩ = some (.slice (some ⟨g, 0, none⟩) l.length c) ∧ OwnI w B3 (.slice (some ⟨g, 0, none⟩) l.length c) (upL l) ∧ B3 ≤ g ∧ g < S4 ∧ L'[d]? = some l := by
  have hd' := h.rest d (Nat.le_refl _)
  rw [hd] at hd'
  obtain ⟨p, gv, a, c, n, hp, hv, hc, hf, rfl, hi, _, _⟩ := h.own.get (j := d) (l := upL l) (by rw [List.getElem?_map, hd']; rfl)
  rw [List.length_map, h.len] at hv
  rw [upL_len] at hp hc hi
  obtain ⟨g, rfl⟩ : ∃ g, a = some ⟨g, 0, none⟩ := by
    rcases hi.2 with ⟨h1, h0⟩ | ⟨g, c', cs, h1, _⟩
    · rw [upL_len] at h0
      exact absurd (List.length_eq_zero_iff.1 h0) hne
    · injection h1 with h1 _ _
      exact ⟨g, h1⟩
  have := h.blk d _ g hp rfl
  exact ⟨gv, n, g, c, hv, hp, hc, hi, this.1, this.2, hd'⟩
theorem DaysAt.sorted {w w' : World} {B3 S4 : Nat} {v : Value} {vds : List Value} {L L' : List (List Nat)} {d g c : Nat} {l l' : List Nat} (h : DaysAt w B3 S4 v vds L L' d) (hd : L[d]? = some l) (hp : vds[d]? = some (.slice (some ⟨g, 0, none⟩) l.length c))
    (hg : w.grownBy w' (some g)) (hl : OwnI w' B3 (.slice (some ⟨g, 0, none⟩) l.length c) (upL l')) : DaysAt w' B3 S4 v vds L (L'.set d l') (d + 1) := by
  have hd' := h.rest d (Nat.le_refl _)
  rw [hd] at hd'
  have ho : Only w w' (fun b => (Value.slice (some ⟨g, 0, none⟩) l.length c).ownBlock = some b) := Only.of_grown hg (fun q e => e)
  refine ⟨?_, by rw [List.length_set]; exact h.len, fun e he => ?_, h.blk, h.vblk⟩
  · rw [List.map_set]
    exact h.own.sorted (l := upL l) (by rw [List.getElem?_map, hd']; rfl) hp ho hl
  · rw [List.getElem?_set_ne (by omega)]
    exact h.rest e (by omega)
theorem DaysAt.row {w : World} {B3 S4 : Nat} {v p : Value} {vds : List Value} {L L' : List (List Nat)} {d : Nat} {l : List Nat} (h : DaysAt w B3 S4 v vds L L' d) (hd : L[d]? = some l) (hp : vds[d]? = some p) : OwnI w B3 p (upL l) := by
  have hd' := h.rest d (Nat.le_refl _)
  rw [hd] at hd'
  exact h.own.list d (upL l) p (by rw [List.getElem?_map, hd']; rfl) hp
theorem in3 {w w' : World} {b c d o1 o2 o3 : Nat} {v1 v2 v3 : Value} (h1 : w.cell? ⟨b, o1, none⟩ = some v1) (h2 : w.cell? ⟨c, o2, none⟩ = some v2) (h3 : w.cell? ⟨d, o3, none⟩ = some v3) (hB : Below w.heap.size w w') : w'.cell? ⟨b, o1, none⟩ = some v1 ∧ w'.cell? ⟨c, o2, none⟩ = some v2 ∧ w'.cell? ⟨d, o3, none⟩ = some v3 :=
  ⟨(bcell hB _ _ (block_of_cell h1)).trans h1, (bcell hB _ _ (block_of_cell h2)).trans h2, (bcell hB _ _ (block_of_cell h3)).trans h3⟩
theorem in3s {w w' : World} {b c d o1 o2 o3 g p q : Nat} {v1 v2 v3 u1 u2 : Value} (h1 : w.cell? ⟨b, o1, none⟩ = some v1) (h2 : w.cell? ⟨c, o2, none⟩ = some v2) (h3 : w.cell? ⟨d, o3, none⟩ = some v3) (hB : Below w.heap.size w w') (n1 : b ≠ g) (n2 : c ≠ g) (n3 : d ≠ g) :
    ((w'.setCell ⟨g, p, none⟩ u1).setCell ⟨g, q, none⟩ u2).cell? ⟨b, o1, none⟩ = some v1 ∧ ((w'.setCell ⟨g, p, none⟩ u1).setCell ⟨g, q, none⟩ u2).cell? ⟨c, o2, none⟩ = some v2 ∧ ((w'.setCell ⟨g, p, none⟩ u1).setCell ⟨g, q, none⟩ u2).cell? ⟨d, o3, none⟩ = some v3 := by
  have key : ∀ {e o : Nat}, e ≠ g → ((w'.setCell ⟨g, p, none⟩ u1).setCell ⟨g, q, none⟩ u2).cell? ⟨e, o, none⟩ = w'.cell? ⟨e, o, none⟩ := fun {e o} hne => by
    rw [World.cell?_setCell_other _ _ _ _ (fun h => by injection h with h; exact hne h.symm), World.cell?_setCell_other _ _ _ _ (fun h => by injection h with h; exact hne h.symm)]
  obtain ⟨k1, k2, k3⟩ := in3 h1 h2 h3 hB
  exact ⟨(key n1).trans k1, (key n2).trans k2, (key n3).trans k3⟩
theorem getD_set_eqN (M : List Nd) (x y : Nat) (nd : Nd) (hx : x < M.length) : (M.set x nd).getD y ([], []) = if x = y then nd else M.getD y ([], []) := by
  rw [List.getD_eq_getElem?_getD, List.getD_eq_getElem?_getD]
  by_cases h : x = y
  · subst h; rw [if_pos rfl, List.getElem?_set_self hx]; rfl
  · rw [if_neg h, List.getElem?_set_ne h]
theorem out_last {M : List Nd} {idx : List Nat} {i : Nat} {nd : Nd} (h : idx[idx.length - 1]? = some i) (hn : M[i]? = some nd) : (idx.map (fun i => M.getD i ([], []))).getLast? = some nd := by
  rw [List.getLast?_eq_getElem?, List.length_map, List.getElem?_map, h]
  simp only [Option.map_some]
  rw [getD_at hn]
theorem pl_set {Q : List Nat} {x v : Nat} (h : x < Q.length) : (fun y => (Q.set x v).getD y 0) = (fun y => if y = x then v else Q.getD y 0) := by
  funext y
  by_cases e : y = x
  · subst e; rw [if_pos rfl, getD_set_same _ _ _ h]
  · rw [if_neg e, getD_set_other _ _ _ _ (fun h => e h.symm)]
theorem upN_inj {a b : Nd} (h : upN a = upN b) : a = b := by
  obtain ⟨a1, a2⟩ := a
  obtain ⟨b1, b2⟩ := b
  unfold upN at h
  injection h with h1 h2
  have e1 : a1 = b1 := upL_inj.1 h1
  have e2 : a2 = b2 := upL_inj.1 h2
  rw [e1, e2]
/-- the day's nodes, put in order by the sort -/
theorem dayD_sorted {P : List Nd} {b : Nat → Nat} {d : Nat} {l D' : List Nat} {M : List Nd} {pl0 : Nat → Nat} (hp : D'.Perm l) (hm : ∀ k, k ∈ l ↔ k < P.length ∧ b k = d) (hn : l.Nodup) (ha : D'.Pairwise (fun a b => ltNd (M.getD b ([], [])) (M.getD a ([], [])) = false))
    (hM : ∀ x ∈ l, M.getD x ([], []) = movd pl0 (P.getD x ([], []))) : DayD P b d D' pl0 :=
  ⟨fun k => by rw [hp.mem_iff]; exact hm k, hp.nodup_iff.2 hn, ha.imp_of_mem (fun {x y} hx hy h => by rw [← hM x (hp.mem_iff.1 hx), ← hM y (hp.mem_iff.1 hy)]; exact h)⟩
theorem day_new' {P : List Nd} {b : Nat → Nat} {d j x k : Nat} {D' Q idx : List Nat} {M : List Nd} {pl0 : Nat → Nat} (hb : Births P b) (hu : Under P) (hD : DayD P b d D' pl0) (h : DayIs P b d D' pl0 j (idx.map (fun i => M.getD i ([], []))) (fun y => Q.getD y 0)) (hi : D'[j]? = some x)
    (hM : M.getD x ([], []) = movd pl0 (P.getD x ([], []))) (hq : x < Q.length) (hk : k = idx.length) (hl : (idx.map (fun i => M.getD i ([], []))).getLast? ≠ some (M.getD x ([], []))) : DayIs P b d D' pl0 (j + 1) ((idx ++ [x]).map (fun i => M.getD i ([], []))) (fun y => (Q.set x k).getD y 0) := by
  rw [hM] at hl
  have := day_new hb hu hD h hi hl
  rw [pl_set hq, List.map_append, List.map_singleton, hM, hk]
  rw [List.length_map] at this
  exact this
theorem day_old' {P : List Nd} {b : Nat → Nat} {d j x k : Nat} {D' Q idx : List Nat} {M : List Nd} {pl0 : Nat → Nat} (hb : Births P b) (hu : Under P) (hD : DayD P b d D' pl0) (h : DayIs P b d D' pl0 j (idx.map (fun i => M.getD i ([], []))) (fun y => Q.getD y 0)) (hi : D'[j]? = some x)
    (hM : M.getD x ([], []) = movd pl0 (P.getD x ([], []))) (hq : x < Q.length) (hk : k = idx.length) (hl : (idx.map (fun i => M.getD i ([], []))).getLast? = some (M.getD x ([], []))) : DayIs P b d D' pl0 (j + 1) (idx.map (fun i => M.getD i ([], []))) (fun y => (Q.set x (k - 1)).getD y 0) := by
  rw [hM] at hl
  have := day_old hb hu hD h hi hl
  rw [pl_set hq, hk]
  rw [List.length_map] at this
  exact this
/-- no day is empty -/
theorem born_ahead {P : List Nd} {b : Nat → Nat} (hb : Births P b) (hu : Under P) {k : Nat} (hk : k < P.length) : b k = 0 ∨ ∃ x, x < k ∧ b x + 1 = b k := by
  obtain ⟨nd, hnd⟩ := lt_get hk
  have h1 := hb k nd hnd
  have h2 := foldl_max_is b (nd.1 ++ nd.2) 0
  unfold lastOf at h1
  rcases h2 with h2 | ⟨x, hx, h2⟩
  · left; rw [h1, h2]
  · right
    refine ⟨x, hu k nd hnd x (by simpa using hx), ?_⟩
    rw [h1, h2]
theorem daysL_some {P : List Nd} {b : Nat → Nat} (hb : Births P b) (hu : Under P) : ∀ k, k ≤ P.length → ∀ d, d < (daysL b k).length → ∃ i, i < k ∧ b i = d
  | 0, _, d, h => by simp [daysL] at h
  | k + 1, hk, d, h => by
    have ih := daysL_some hb hu k (by omega)
    simp only [daysL, List.length_set, List.length_append, List.length_replicate] at h
    rcases Nat.lt_or_ge d (daysL b k).length with h1 | h1
    · obtain ⟨i, hi, e⟩ := ih d h1
      exact ⟨i, by omega, e⟩
    · rcases Nat.lt_trichotomy d (b k) with h2 | h2 | h2
      · rcases born_ahead hb hu (k := k) (by omega) with e | ⟨x, hx, e⟩
        · omega
        · have := daysL_lt b k x hx
          omega
      · exact ⟨k, by omega, h2.symm⟩
      · omega
/-- a day's places -/
theorem daysL_day {P : List Nd} {b : Nat → Nat} (hb : Births P b) (hu : Under P) {d : Nat} {l : List Nat} (h : (daysL b P.length)[d]? = some l) : l ≠ [] ∧ l.Nodup ∧ ∀ k, k ∈ l ↔ k < P.length ∧ b k = d := by
  have hl := get_lt h
  have h2 := daysL_get b P.length d hl
  rw [h] at h2
  injection h2 with h2
  subst h2
  refine ⟨?_, List.nodup_range.filter _, fun k => by simp⟩
  obtain ⟨i, hi, e⟩ := daysL_some hb hu P.length (Nat.le_refl _) d hl
  exact List.ne_nil_of_mem (a := i) (by simp [hi, e])
end
end

section
section
open Go.RowKit
set_option linter.unusedVariables false
set_option linter.unusedSimpArgs false
theorem rowN2_nils (n : Nat) : (madeCells (Value.agg #[.slice none 0 0, .slice none 0 0]).cells (n * 2)).toList = rowN2 (List.replicate n nilP) := by
  have e : ∀ m : Nat, rowN2 (List.replicate m nilP) = List.replicate (m * 2) (.slice none 0 0) := fun m => by
    induction m with
    | zero => rfl
    | succ m ih =>
      rw [List.replicate_succ]
      show Value.slice none 0 0 :: Value.slice none 0 0 :: rowN2 (List.replicate m nilP) = _
      rw [ih, show (m + 1) * 2 = m * 2 + 1 + 1 from by omega, List.replicate_succ, List.replicate_succ]
  rw [e]
  apply List.ext_getElem
  · simp [madeCells]
  · intro i h1 h2
    have : i % 2 = 0 ∨ i % 2 = 1 := by omega
    rcases this with h3 | h3 <;> simp [madeCells, Value.cells, h3]
theorem OwnL.nils (w : World) (base n : Nat) : OwnL w base (List.replicate n nilP) ((List.replicate n (([], []) : Nd)).map upN) := by
  have h : ∀ (j : Nat) (p : Value × Value), (List.replicate n nilP)[j]? = some p → p = nilP := fun j p hp => by
    rw [List.getElem?_replicate] at hp
    split at hp
    · injection hp with hp; exact hp.symm
    · cases hp
  refine ⟨by simp, fun j nd p hj hp => ?_, fun j p hp => ?_, fun i j p q _ hp hq => ?_⟩
  · rw [h j p hp]
    rw [List.getElem?_map, List.getElem?_replicate] at hj
    split at hj
    · simp only [Option.map_some, Option.some.injEq] at hj
      subst hj
      exact ⟨OwnI.nil _ _, OwnI.nil _ _⟩
    · cases hj
  · rw [h j p hp]; exact Apart.nil _
  · rw [h i p hp, h j q hq]; exact ⟨Apart.nil _, Apart.nil _, Apart.nil _, Apart.nil _⟩
/-- the state at a day's beginning -/
structure Day0 (P : List Nd) (b : Nat → Nat) (d : Nat) (Q : List Nat) (M : List Nd) (idx : List Nat) : Prop where
  canon : Canon P b (fun k => b k < d) (idx.map (fun i => M.getD i ([], []))) (fun k => Q.getD k 0)
  early : ∀ i ∈ idx, b i < d
set_option maxRecDepth 100000 in
set_option maxHeartbeats 4000000 in
theorem inOrder_calls (v : Value) (P : List Nd) (w : World) (lo hi : Nat) (hh : hi ≤ w.heap.size) (hv : NodesZ w lo hi v (P.map upN)) (hu : Under P) (hl : P.length ≤ 100000) (hn : ∀ nd ∈ P, nd.1.length ≤ 1000 ∧ nd.2.length ≤ 1000) :
    Calls Try.prog 51 #[v] w fun e w' => ∃ a c vs g out Q, e = .returned (.tuple #[.slice a out.length c, .slice (some ⟨g, 0, none⟩) P.length P.length]) ∧ OwnF w' w.heap.size (.slice a out.length c) vs (out.map upN) ∧
      OwnI w' w.heap.size (.slice (some ⟨g, 0, none⟩) P.length P.length) (upL Q) ∧ Canon P (bOf P) (fun _ => True) out (fun k => Q.getD k 0) ∧ Below w.heap.size w w' := by
  obtain ⟨iI, hiI, hzI0, hzI1, hzI2⟩ := info_parts infoIntA
  obtain ⟨iN, hiN, hzN0, hzN1, hzN2⟩ := info_parts infoNodeA
  have HV := Lib.hid hv
  have HU := Lib.hid hu
  have HN := Lib.hid hn
  have CD := Lib.hid fun (W : World) (hW : Below w.heap.size w W) => daysOf_calls v P W lo hi (Nat.le_trans hh hW.size) (hv.below hW hh) hu (by omega)
  have HBi := Lib.hid (births_bOf P hu)
  obtain ⟨ao, c0, hvs⟩ : ∃ ao c, v = .slice ao P.length c := by obtain ⟨ao, c, e, _⟩ := hv; exact ⟨ao, c, by rw [e]; simp⟩
  subst hvs
  obtain ⟨b, hb⟩ : ∃ b, bOf P = b := ⟨_, rfl⟩
  rw [hb] at CD HBi ⊢
  have HDd := Lib.hid fun (d : Nat) (l : List Nat) (h : (daysL b P.length)[d]? = some l) => daysL_day HBi.out hu h
  have HDl := Lib.hid (daysL_lt b P.length)
  have HDs := Lib.hid fun (d : Nat) (l : List Nat) (h : (daysL b P.length)[d]? = some l) => (daysL_small b P.length l (List.mem_of_getElem? h)).1
  have HLl : Hid ((daysL b P.length).length ≤ P.length) := Lib.hid (daysL_len b P.length P.length (fun i hi => by rw [← hb]; have := bOf_le P hu i hi; omega))
  clear hv hu hn hb
  go_enter Try.func51, Try.ntmps51
  go_wp2_with (first
    | (at_make; refine wpList_make_full _ rfl _ _ 34 rfl w.heap.size 3 iI (.int .i64 0) 1 Try.underlying34 hiI hzI0 hzI1 _ _ _ _ P.length rfl rfl rfl rfl (by rw [hzI2]; omega) (by unfold maxLen; omega) (Nat.le_refl _) ?_; intro w1 hown hg; have hs1 := (World.ownsRow.lt hown _ rfl).2; have HO1 := Lib.hid hown; have HG1 := Lib.hid hg; clear hown hg)
    | (at_make; refine wpList_make_full _ rfl _ _ 26 rfl w.heap.size 57 iN (.agg #[.slice none 0 0, .slice none 0 0]) 2 Try.underlying26 hiN hzN0 hzN1 _ _ _ _ P.length rfl rfl rfl rfl (by rw [hzN2]; omega) (by unfold maxLen; omega) (Nat.le_of_lt hs1) ?_; intro w2 hown hg; have hs2 := (World.ownsRow.lt hown _ rfl).2; have HO2 := Lib.hid hown; have HG2 := Lib.hid hg; clear hown hg)
    | fail)
  have hg2 : Below w1.heap.size w1 w2 := (Below.refl _ _).grown HG2.out (Nat.le_refl _) (fun k hk => by cases hk)
  have HB2 := Lib.hid (((Below.refl _ _).grown HG1.out (Nat.le_refl _) (fun k hk => by cases hk) : Below w.heap.size w w1).trans (hg2.mono (Nat.le_of_lt hs1)))
  have HP2 : Hid (OwnI w2 w.heap.size (.slice (some ⟨w.heap.size, 0, none⟩) P.length P.length) (upL (List.replicate P.length 0))) := Lib.hid (by
    have e : (madeCells (Value.int .i64 0).cells (P.length * 1)).toList = (upL (List.replicate P.length 0)).map (Value.int .i64) := by
      show (madeCells #[Value.int .i64 0] (P.length * 1)).toList = _
      rw [Nat.mul_one, made_one]
      simp [upL]
    refine OwnI.below ?_ hg2
    unfold OwnI
    rw [upL_len, List.length_replicate, ← e]
    exact HO1.out)
  have HR2 : Hid (w2.ownsRow w.heap.size 57 2 (.slice (some ⟨w1.heap.size, 0, none⟩) P.length P.length) P.length (rowN2 (List.replicate P.length nilP))) := Lib.hid (by rw [← rowN2_nils]; exact HO2.out)
  have hba : Below w2.heap.size w2 (w2.alloc (.cells #[.slice (some ⟨w1.heap.size, 0, none⟩) P.length P.length] 26)) := (Below.refl _ _).alloc (Nat.le_refl _) _
  have HB3 := Lib.hid (HB2.out.trans (hba.mono (by omega)))
  have HX3 : BoxAt (w2.alloc (.cells #[.slice (some ⟨w1.heap.size, 0, none⟩) P.length P.length] 26)) w2.heap.size (.slice (some ⟨w1.heap.size, 0, none⟩) P.length P.length) := ⟨by go_simp, by go_simp⟩
  have HP3 := Lib.hid (HP2.out.below hba)
  have HR3 := Lib.hid (own_only HR2.out (Only.of_below (F := fun _ => False) hba) (fun _ _ => id))
  have hz3 : (w2.alloc (.cells #[.slice (some ⟨w1.heap.size, 0, none⟩) P.length P.length] 26)).heap.size = w2.heap.size + 1 := by simp
  clear hba hg2 HG1 HG2 HO1 HO2 HB2 HP2 HR2
  refine (CD.out _ HB3.out).mono ?_
  generalize w2.alloc (.cells #[.slice (some ⟨w1.heap.size, 0, none⟩) P.length P.length] 26) = w3 at HB3 HX3 HP3 HR3 hz3 ⊢
  rintro e w4 ⟨ad, cd, vds, rfl, hday, hb4⟩
  have hs4 := hb4.size
  have HIS : Hid (InS w w4 w1.heap.size w2.heap.size P.length w4.heap.size (List.replicate P.length 0) (List.replicate P.length ([], [])) (List.replicate P.length nilP) [] (.slice none 0 0)) := Lib.hid
    ⟨HB3.out.trans (hb4.mono (by omega)), ⟨hs1, hs2, by omega⟩, Nat.le_refl _, HP3.out.below hb4, HX3.below hb4, own_only HR3.out (Only.of_below (F := fun _ => False) hb4) (fun _ _ => id), OwnL.nils _ _ _, World.ownsRow_nil _ _ _ _,
      fun j p hp => ⟨Apart.nil _, Apart.nil _⟩, by simp, by simp, fun i hi => by simp at hi, List.nodup_nil⟩
  have HDA : Hid (DaysAt w4 w3.heap.size w4.heap.size (.slice ad (daysL b P.length).length cd) vds (daysL b P.length) (daysL b P.length) 0) := Lib.hid
    ⟨hday, rfl, fun _ _ => rfl, fun j p g hp hg => by
      obtain ⟨l, hl'⟩ := lt_get (l := (daysL b P.length).map upL) (i := j) (by rw [← hday.len]; exact get_lt hp)
      exact (hday.list j l p hl' hp).lt g hg, fun g hg => World.ownsRow.lt hday.rows g hg⟩
  have HD0 : Hid (Day0 P b 0 (List.replicate P.length 0) (List.replicate P.length ([], [])) []) := Lib.hid ⟨days_none P b _, fun i hi => by simp at hi⟩
  clear hday hb4 HB3 HX3 HP3 HR3 CD
  obtain ⟨L, hL⟩ : ∃ L, daysL b P.length = L := ⟨_, rfl⟩
  rw [hL] at HDd HDl HDs HLl HDA ⊢
  clear hL
  go_wp2
  go_loopw [4, 22] (fun v i wr => ∃ (d k : Nat) (a : Option Addr) (c : Nat) (Q : List Nat) (M : List Nd) (vs : List (Value × Value)) (idx : List Nat) (L' : List (List Nat)), d ≤ L.length ∧ i = .int .i64 d ∧ v = .slice a k c ∧ Hid (k = idx.length) ∧ Hid (InS w wr w1.heap.size w2.heap.size P.length w4.heap.size Q M vs idx (.slice a k c)) ∧ Hid (Day0 P b d Q M idx) ∧ Hid (DaysAt wr w3.heap.size w4.heap.size (.slice ad L.length cd) vds L L' d)) (fun _ i _ => L.length - (intOf i).toNat)
  case atStart => exact ⟨0, 0, none, 0, _, _, _, [], L, Nat.zero_le _, rfl, rfl, Lib.hid rfl, HIS, HD0, HDA⟩
  case round =>
    obtain ⟨d, k, a, c, Q, M, vs, idx, L', hd, rfl, rfl, hk, his, hd0, hda⟩ := hrel
    clear HIS HDA HD0
    by_cases hlt : d < L.length
    · obtain ⟨l, hl'⟩ := lt_get hlt
      obtain ⟨hne, hnod, hmem⟩ := HDd.out d l hl'
      have hll := HDs.out d l hl'
      obtain ⟨gv, cv, g, cg, hvd, hvg, hcv, hog, hg3, hg4, hL'⟩ := hda.out.get hl' hne
      obtain ⟨e1, e2, e3⟩ := slice_inj hvd; clear e2
      subst e1 e3
      have HMem := Lib.hid hmem
      have HNod := Lib.hid hnod
      have HL' := Lib.hid hl'
      have HVG := Lib.hid hvg
      have d0 : (0 : Int) ≤ d := by omega
      have d1 : (d : Int) < L.length := by omega
      obtain ⟨W1, hW1⟩ : ∃ W, W = wr := ⟨_, rfl⟩
      subst hW1
      clear hne hnod hmem hvd hvg hL' hl' hog
      go_wp2
      go_loopw [28] (fun i wr => ∃ (j : Nat) (M' : List Nd) (vs' : List (Value × Value)), j ≤ l.length ∧ i = .int .i64 j ∧ Hid (InS w wr w1.heap.size w2.heap.size P.length w4.heap.size Q M' vs' idx (.slice a k c)) ∧ Hid (DaysAt wr w3.heap.size w4.heap.size (.slice (some ⟨gv, 0, none⟩) L.length cd) vds L L' d) ∧
        Hid (∀ x ∈ l.take j, M'.getD x ([], []) = movd (fun y => Q.getD y 0) (P.getD x ([], []))) ∧ Hid (∀ x ∈ idx, M'.getD x ([], []) = M.getD x ([], []))) (fun i _ => l.length - (intOf i).toNat)
      case atStart => exact ⟨0, M, vs, Nat.zero_le _, rfl, his, hda, Lib.hid (fun x hx => by simp at hx), Lib.hid (fun x hx => rfl)⟩
      case round =>
        clear his hda
        obtain ⟨j, M', vs', hj, rfl, his, hda, hm, hi0⟩ := hrel
        by_cases hlt2 : j < l.length
        · obtain ⟨x, hx⟩ := lt_get hlt2
          have hxm := (HMem.out x).1 (List.mem_of_getElem? hx)
          have hxn := hxm.1
          obtain ⟨nd, hnd⟩ := lt_get hxn
          have hcd := ((hda.out.row HL'.out HVG.out).at_ (x := j) (v := (x : Int)) (by unfold upL; rw [List.getElem?_map, hx]; rfl)).1
          obtain ⟨nb, off, cc, v1, v2, e, hbh, p1, p2, i1, i2⟩ := nodes_atP (HV.out.below his.out.below hh) hnd
          obtain ⟨q1, q2, q3⟩ := slice_inj e; clear q2
          subst q1 q3
          obtain ⟨a1, d1, rfl, hd1⟩ := ints_lenP i1
          obtain ⟨a2, d2, rfl, hd2⟩ := ints_lenP i2
          obtain ⟨po, ndo, _, _, m1, m2, mf1, mf2, _, _⟩ := his.out.node hxn
          have hbx := his.out.box.1
          have hsz := his.out.below.size
          have hql := his.out.qlen
          have hhi := Nat.le_trans hh hsz
          have hnn := HN.out nd (List.mem_of_getElem? hnd)
          have hux := HU.out x nd hnd
          have C1 := Lib.hid fun (W : World) (hW : RowKit.Below wr.heap.size wr W) => movedI_calls (.slice a1 nd.1.length d1) (.slice (some ⟨w.heap.size, 0, none⟩) P.length P.length) nd.1 Q W lo hi w.heap.size wr.heap.size (Nat.le_trans hhi hW.size) hW.size (i1.below hW hhi) (his.out.places.ints.below hW (Nat.le_refl _)) (fun y hy => by have := hux y (Or.inl hy); omega) hnn.1 (by omega)
          have C2 := Lib.hid fun (W : World) (hW : RowKit.Below wr.heap.size wr W) => movedI_calls (.slice a2 nd.2.length d2) (.slice (some ⟨w.heap.size, 0, none⟩) P.length P.length) nd.2 Q W lo hi w.heap.size wr.heap.size (Nat.le_trans hhi hW.size) hW.size (i2.below hW hhi) (his.out.places.ints.below hW (Nat.le_refl _)) (fun y hy => by have := hux y (Or.inr hy); omega) hnn.2 (by omega)
          obtain ⟨t1, ht1⟩ : ∃ n, sortd (nd.1.map fun y => Q.getD y 0) = n := ⟨_, rfl⟩
          obtain ⟨t2, ht2⟩ : ∃ n, sortd (nd.2.map fun y => Q.getD y 0) = n := ⟨_, rfl⟩
          rw [ht1] at C1
          rw [ht2] at C2
          have HT : Hid (movd (fun y => Q.getD y 0) nd = (t1, t2)) := Lib.hid (by unfold movd; rw [ht1, ht2])
          clear ht1 ht2
          have x0 : (0 : Int) ≤ x := by omega
          have x1 : (x : Int) < P.length := by omega
          have j0 : (0 : Int) ≤ j := by omega
          have j1 : (j : Int) < l.length := by omega
          have HX := Lib.hid hx
          have HND := Lib.hid hnd
          have HXM := Lib.hid hxm
          have hgmw := block_of_cell m1
          clear e i1 i2 hx hnd hxm hux hnn hql
          go_upto_region 10 with fail
          have hbd : RowKit.Below wr.heap.size wr wr.drew := below_drewN (RowKit.Below.refl _ _) 1
          have hS0 : wr.drew.cell? ⟨w2.heap.size, 0, none⟩ = some (.slice (some ⟨w1.heap.size, 0, none⟩) P.length P.length) ∧ wr.drew.cell? ⟨nb, off + x * 2, none⟩ = some (.slice a1 nd.1.length d1) ∧ wr.drew.cell? ⟨nb, off + x * 2 + 1, none⟩ = some (.slice a2 nd.2.length d2) := ⟨hbx, p1, p2⟩
          go_region_held3 (fun w' : World => w'.cell? ⟨w2.heap.size, 0, none⟩ = some (.slice (some ⟨w1.heap.size, 0, none⟩) P.length P.length) ∧ w'.cell? ⟨nb, off + x * 2, none⟩ = some (.slice a1 nd.1.length d1) ∧ w'.cell? ⟨nb, off + x * 2 + 1, none⟩ = some (.slice a2 nd.2.length d2)) (first | exact hS0 | (go_split_ands; exact ⟨‹_›, ‹_›, ‹_›⟩) | exact in3 hbx p1 p2 (by assumption) | exact in3s hbx p1 p2 HBb (by omega) (by omega) (by omega)) (first
            | (go_at_call 83; (with_reducible refine (C1.out _ hbd).mono ?_); rintro e wa ⟨g1, c1, rfl, ho1, hba⟩; have HBa : RowKit.Below wr.heap.size wr wa := hbd.trans (hba.mono (by simp)))
            | (go_at_call 83; (with_reducible refine (C2.out wa HBa).mono ?_); rintro e wb ⟨g2, c2, rfl, ho2, hbb⟩; have HBb : RowKit.Below wr.heap.size wr wb := HBa.trans (hbb.mono HBa.size); have mb1 := (bcell HBb _ _ hgmw).trans m1; have mb2 := (bcell HBb _ _ hgmw).trans m2; have mg1 := (HBb.frozen (p := ⟨w1.heap.size, x * 2, none⟩) hgmw).trans mf1; have mg2 := (HBb.frozen (p := ⟨w1.heap.size, x * 2 + 1, none⟩) hgmw).trans mf2))
          all_goals
            have hxi : x ∉ idx := fun h => by have := hd0.out.early x h; have := HXM.out.2; omega
            have O1 : OwnI wb wr.heap.size (.slice (some ⟨g1, 0, none⟩) t1.length c1) (upL t1) := ho1.below hbb
            have O2 : OwnI wb wr.heap.size (.slice (some ⟨g2, 0, none⟩) t2.length c2) (upL t2) := ho2.mono HBa.size
            have HA : Apart (.slice (some ⟨g1, 0, none⟩) t1.length c1) (.slice (some ⟨g2, 0, none⟩) t2.length c2) := fun q e1 e2 => by
              have := ho1.lt q e1
              have := ho2.lt q e2
              omega
            have I3 := Lib.hid (his.out.setM (i := x) (nd := (t1, t2)) (p := (.slice (some ⟨g1, 0, none⟩) t1.length c1, .slice (some ⟨g2, 0, none⟩) t2.length c2)) HBb O1 O2 HA hxi)
            have D3 := Lib.hid ((hda.out.below HBb).only (F := fun b => b = w1.heap.size) ((Only.of_set (F := fun b => b = w1.heap.size) (p := ⟨w1.heap.size, x * 2, none⟩) (.slice (some ⟨g1, 0, none⟩) t1.length c1) rfl).trans (Only.of_set (F := fun b => b = w1.heap.size) (p := ⟨w1.heap.size, x * 2 + 1, none⟩) (.slice (some ⟨g2, 0, none⟩) t2.length c2) rfl) (fun _ _ e => e)) (fun b e => by omega))
            have hml := his.out.mlen
            have M3 : Hid (∀ y ∈ l.take (j + 1), (M'.set x (t1, t2)).getD y ([], []) = movd (fun y => Q.getD y 0) (P.getD y ([], []))) := Lib.hid (fun y hy => by
              rw [getD_set_eqN _ _ _ _ (by omega)]
              by_cases h : x = y
              · subst h
                rw [if_pos rfl, getD_at HND.out, HT.out]
              · rw [if_neg h]
                refine hm.out y ?_
                rcases (mem_take_succ HX.out).1 hy with h2 | h2
                · exact h2
                · exact absurd h2.symm h)
            have N3 : Hid (∀ y ∈ idx, (M'.set x (t1, t2)).getD y ([], []) = M.getD y ([], [])) := Lib.hid (fun y hy => by
              rw [getD_set_eqN _ _ _ _ (by omega), if_neg (fun (h : x = y) => hxi (by rw [h]; exact hy))]
              exact hi0.out y hy)
            clear O1 O2 HA ho1 ho2 hba hbb HBa HBb hbx p1 p2 hS0 m1 m2 mb1 mb2 mg1 mg2 mf1 mf2 hcd hbd
            go_wp2
            go_roundw
            case rel => exact ⟨j + 1, _, _, by omega, by go_num, I3, D3, M3, N3⟩
            case measure => first | (simp [intOf]; done) | (simp [intOf]; omega)
        · have hje : j = l.length := by omega
          subst hje
          rw [List.take_length] at hm
          have hrow := hda.out.row HL'.out HVG.out
          have hcm := his.out.cmpAt
          have hsz := his.out.size
          have hs3 := his.out.s4
          have CS := Lib.hid (sortDay_calls l M' wr w3.heap.size g cg w2.heap.size w1.heap.size P.length P.length vs' w4.heap.size wr.heap.size hrow hcm (Nat.le_refl _) (fun x hx => ((HMem.out x).1 hx).1) (by omega) (by omega) (Or.inl hg4) (by omega) (by omega) (by
            cases l with
            | nil => exact absurd rfl (HDd.out d [] HL'.out).1
            | cons y l => have := ((HMem.out y).1 (by simp)).1; omega))
          clear hrow hcm
          go_wp2_with fail
          refine CS.out.mono ?_
          rintro e wq ⟨rfl, D', hperm, hasc, hoq, hgq⟩
          have hoq1 : Only wr wq (fun b => b = g) := Only.of_grown hgq (fun q e => by injection e with e; exact e.symm)
          have I1 := Lib.hid (his.out.only hoq1 (fun q e => by omega))
          have A1 := Lib.hid (hda.out.sorted HL'.out HVG.out hgq hoq)
          have O1 := Lib.hid hoq
          have hlen : D'.length = l.length := hperm.length_eq
          have HDD : Hid (DayD P b d D' (fun y => Q.getD y 0)) := Lib.hid (dayD_sorted hperm HMem.out HNod.out hasc hm.out)
          have hmap : idx.map (fun i => M'.getD i ([], [])) = idx.map (fun i => M.getD i ([], [])) := List.map_congr_left (fun x hx => hi0.out x hx)
          have S1 : Hid (DayIs P b d D' (fun y => Q.getD y 0) 0 (idx.map (fun i => M'.getD i ([], []))) (fun y => Q.getD y 0)) := Lib.hid (by rw [hmap]; exact day_start hd0.out.canon)
          have E1 : Hid (∀ x ∈ idx, b x < d ∨ x ∈ D'.take 0) := Lib.hid (fun x hx => Or.inl (hd0.out.early x hx))
          have HML : Hid (∀ x ∈ D', M'.getD x ([], []) = movd (fun y => Q.getD y 0) (P.getD x ([], [])) ∧ x < P.length) := Lib.hid (fun x hx => ⟨hm.out x (hperm.mem_iff.1 hx), ((HMem.out x).1 (hperm.mem_iff.1 hx)).1⟩)
          clear hoq hgq hoq1 hperm hasc hmap his hda hm hi0 hd0 CS
          go_wp2
          go_loopw [4, 56] (fun v i wr => ∃ (j k : Nat) (a : Option Addr) (c : Nat) (Q' : List Nat) (idx' : List Nat), j ≤ l.length ∧ i = .int .i64 j ∧ v = .slice a k c ∧ Hid (k = idx'.length) ∧ Hid (InS w wr w1.heap.size w2.heap.size P.length w4.heap.size Q' M' vs' idx' (.slice a k c)) ∧
            Hid (DaysAt wr w3.heap.size w4.heap.size (.slice (some ⟨gv, 0, none⟩) L.length cd) vds L (L'.set d D') (d + 1)) ∧ Hid (OwnI wr w3.heap.size (.slice (some ⟨g, 0, none⟩) l.length cg) (upL D')) ∧ Hid (DayIs P b d D' (fun y => Q.getD y 0) j (idx'.map (fun i => M'.getD i ([], []))) (fun y => Q'.getD y 0)) ∧ Hid (∀ x ∈ idx', b x < d ∨ x ∈ D'.take j)) (fun _ i _ => l.length - (intOf i).toNat)
          case atStart => exact ⟨0, k, a, c, Q, idx, Nat.zero_le _, rfl, rfl, hk, I1, A1, O1, S1, E1⟩
          case round =>
            clear I1 A1 O1 S1 E1 hk
            obtain ⟨j, k, a, c, Q', idx', hj, rfl, rfl, hk, his, hda, hod, hds, hel⟩ := hrel
            by_cases hlt3 : j < l.length
            · obtain ⟨x, hx⟩ := lt_get (l := D') (i := j) (by omega)
              have hxd := HML.out x (List.mem_of_getElem? hx)
              have hxn := hxd.2
              have hcd := (hod.out.at_ (x := j) (v := (x : Int)) (by unfold upL; rw [List.getElem?_map, hx]; rfl)).1
              obtain ⟨px, ndx, hpx, hndx, m1, m2, _, _, i1, i2⟩ := his.out.node hxn
              obtain ⟨ax1, cx1, hv1⟩ := i1.form
              obtain ⟨ax2, cx2, hv2⟩ := i2.form
              obtain ⟨px1, px2⟩ := px
              simp only at hv1 hv2 m1 m2 i1 i2
              subst hv1 hv2
              have hbx := his.out.box.1
              have hsz := his.out.size
              have hs3 := his.out.s4
              have hql := his.out.qlen
              have hkl : idx'.length ≤ P.length := by
                have h1 := his.out.nodup
                have h2 := his.out.idxlt
                have := List.Nodup.length_le_of_subset h1 (l₂ := List.range P.length) (fun y hy => by simp; exact h2 y hy)
                simpa using this
              have hkk := hk.out
              have hpl := his.out.places
              obtain ⟨q0, hq0⟩ := lt_get (l := upL Q') (i := x) (by rw [upL_len]; omega)
              have hqc := hpl.at_ hq0
              have hxi : x ∉ idx' := fun h => by
                rcases hel.out x h with h2 | h2
                · have := ((HDD.out.mem x).1 (List.mem_of_getElem? hx)).2; omega
                · have h3 := HDD.out.nodup
                  rw [← List.take_append_drop j D', List.nodup_append] at h3
                  refine h3.2.2 x h2 x ?_ rfl
                  have hl := get_lt hx
                  rw [List.drop_eq_getElem_cons hl]
                  rw [List.getElem?_eq_getElem hl] at hx
                  injection hx with hx
                  rw [hx]
                  exact List.mem_cons_self
              have HE : Hid (ndx = movd (fun y => Q.getD y 0) (P.getD x ([], []))) := Lib.hid (by rw [← hxd.1, getD_at hndx])
              have x0 : (0 : Int) ≤ x := by omega
              have x1 : (x : Int) < P.length := by omega
              have j0 : (0 : Int) ≤ j := by omega
              have j1 : (j : Int) < l.length := by omega
              have HX := Lib.hid hx
              have HPX := Lib.hid hpx
              have HNX := Lib.hid hndx
              have HXI := Lib.hid hxi
              have hgpw := block_of_cell hqc.1
              have hpw1 := block_of_cell m1
              have hpwb := block_of_cell hbx
              clear hx hxd hpx hndx hpl hq0 hxi hkk
              by_cases hk0 : k = 0
              · have HLst : Hid ((idx'.map (fun i => M'.getD i ([], []))).getLast? ≠ some ndx) := Lib.hid (by
                  have h := hk.out
                  have : idx' = [] := List.length_eq_zero_iff.1 (h.symm.trans hk0)
                  subst this
                  simp)
                have hkb : ((k : Int) == 0) = true := by simp [hk0]
                have k0 : (0 : Int) ≤ k := by omega
                clear hk0
                go_upto_region 16 with fail
                go_quiet (fail)
                have HWB := Lib.hid (below_drewN (RowKit.Below.refl wr.heap.size wr) nq)
                generalize wr.drewN nq = WA at HWB ⊢
                clear hkb
                have mb1 := (bcell HWB.out _ _ hpw1).trans m1
                have mb2 := (bcell HWB.out _ _ hpw1).trans m2
                have mbx := (bcell HWB.out _ _ hpwb).trans hbx
                have qb1 := (bcell HWB.out _ _ hgpw).trans hqc.1
                have qb2 := (HWB.out.frozen (p := ⟨w.heap.size, x, none⟩) hgpw).trans hqc.2
                have IW := Lib.hid (his.out.below' HWB.out)
                have DW := Lib.hid (hda.out.below HWB.out)
                have OW := Lib.hid (hod.out.below HWB.out)
                have hszW := HWB.out.size
                have hkP : k ≤ P.length := by have := hk.out; omega
                clear m1 m2 hbx hqc his hda hod hcd
                go_wp2_with (at_builtin; refine wpList_append_own_at _ rfl _ _ 26 rfl w4.heap.size 57 iN (.agg #[.slice none 0 0, .slice none 0 0]) 2 48 Try.underlying26 hiN hzN0 hzN1 hzN2 rfl (by decide) _ _ _ rfl (World.ownsRow.alloc IW.out.srt _) ⟨WA.heap.size, 0, none⟩ 1 1 [.slice ax1 (upL ndx.1).length cx1, .slice ax2 (upL ndx.2).length cx2] rfl rfl ?c1 ?c2 ?c3 ?c4 ?c5 ?_)
                case c1 => exact World.news_of_block (heap_alloc_new _ _)
                case c2 => first | exact ⟨rfl, rfl⟩ | (intro u hu; simp at hu; rcases hu with rfl | rfl <;> rfl)
                case c3 => unfold maxLen; omega
                case c4 => omega
                case c5 => simp; omega
                intro v6 w6 hown6 hgrow6 hnil6 hat6
                have hal : RowKit.Below WA.heap.size WA (WA.alloc (.cells #[.slice ax1 (upL ndx.1).length cx1, .slice ax2 (upL ndx.2).length cx2] 57)) := (RowKit.Below.refl _ _).alloc (Nat.le_refl _) _
                have I6 := (IW.out.below' hal).push (i := x) (p := (.slice ax1 (upL ndx.1).length cx1, .slice ax2 (upL ndx.2).length cx2)) hgrow6 hown6 (by
                  rcases hat6 with h | h
                  · exact Or.inl h
                  · exact Or.inr (by rw [h]; first | rfl | simp)) HPX.out HXI.out
                have hsl := fun q e => (World.ownsRow.lt IW.out.srt q e).1
                have hoA : Only WA w6 (fun q => w4.heap.size ≤ q) := (Only.of_below (F := fun q => w4.heap.size ≤ q) hal).trans (Only.of_grown (F := fun q => w4.heap.size ≤ q) hgrow6 (fun q e => hsl q e)) (fun _ _ h => h)
                have D6 := DW.out.only hoA (fun q e => Or.inr e)
                have O6 := OW.out.only hoA (fun q e h => by have := own_eqp e; omega)
                have qc1 := (hoA.cell (o := x) (by omega : w.heap.size < WA.heap.size) (by omega)).trans qb1
                have qc2 := (hoA.frozen (o := x) (by omega : w.heap.size < WA.heap.size) (by omega)).trans qb2
                obtain ⟨a6, c6, hv6⟩ := own_form' I6.srt
                rw [List.length_append, List.length_singleton, ← hk.out] at hv6
                subst hv6
                have I7 := Lib.hid (I6.setQ (i := x) (k := k))
                have oQ : Only w6 (w6.setCell ⟨w.heap.size, x, none⟩ (.int .i64 (k : Int))) (fun q => q = w.heap.size) := Only.of_set _ rfl
                have D7 := Lib.hid (D6.only oQ (fun q e => Or.inl (by omega)))
                have O7 := Lib.hid (O6.only oQ (fun q e h => by have := own_eqp e; omega))
                have K7 : Hid (k + 1 = (idx' ++ [x]).length) := Lib.hid (by rw [List.length_append, List.length_singleton, ← hk.out])
                have S7 := Lib.hid (day_new' HBi.out HU.out HDD.out hds.out HX.out (by rw [getD_at HNX.out]; exact HE.out) (by omega) hk.out (by rw [getD_at HNX.out]; exact HLst.out))
                have E7 : Hid (∀ y ∈ idx' ++ [x], b y < d ∨ y ∈ D'.take (j + 1)) := Lib.hid (fun y hy => by
                  rw [mem_take_succ HX.out]
                  rcases List.mem_append.1 hy with h | h
                  · rcases hel.out y h with h2 | h2
                    · exact Or.inl h2
                    · exact Or.inr (Or.inl h2)
                  · exact Or.inr (Or.inr (by simpa using h)))
                have hkn : (k : Int) + 1 - 1 = (k : Int) := by omega
                have hkn2 : ((k + 1 : Nat) : Int) - 1 = (k : Int) := by omega
                have hkn3 : ((k + 1 : Nat) : Int) ≤ 100001 := by omega
                clear hown6 hgrow6 hnil6 hat6 hal hsl hoA oQ I6 D6 O6 IW DW OW mb1 mb2 mbx qb1 qb2 hk hds hel
                go_wp2
                go_roundw
                case rel => exact ⟨j + 1, k + 1, a6, c6, _, _, by omega, by go_num, rfl, K7, I7, D7, O7, S7, E7⟩
                case measure => first | (simp [intOf]; done) | (simp [intOf]; omega)
              · obtain ⟨il, gl, cl, pl, ndl, hil, hvl, hpl, hndl, l1, l2, li1, li2⟩ := his.out.last (by have := hk.out; omega)
                obtain ⟨e1, e2, e3⟩ := slice_inj hvl
                clear e2
                subst e1 e3
                obtain ⟨al1, cl1, hvl1⟩ := li1.form
                obtain ⟨al2, cl2, hvl2⟩ := li2.form
                obtain ⟨pl1, pl2⟩ := pl
                simp only at hvl1 hvl2 l1 l2 li1 li2
                subst hvl1 hvl2
                have HLO : Hid ((idx'.map (fun i => M'.getD i ([], []))).getLast? = some ndl) := Lib.hid (out_last hil hndl)
                rw [← hk.out] at l1 l2
                obtain ⟨r, hr⟩ : ∃ r, cmpNd (upN ndl) (upN ndx) = r := ⟨_, rfl⟩
                have CC := Lib.hid fun (W : World) (hW : RowKit.Below wr.heap.size wr W) => cmpOpts_calls _ _ _ _ (upN ndl) (upN ndx) W w4.heap.size wr.heap.size w4.heap.size wr.heap.size hW.size hW.size (li1.ints.below hW (Nat.le_refl _)) (li2.ints.below hW (Nat.le_refl _)) (i1.ints.below hW (Nat.le_refl _)) (i2.ints.below hW (Nat.le_refl _))
                rw [hr] at CC
                have HR : Hid (r = 0 ↔ ndl = ndx) := Lib.hid (by rw [← hr, cmpNd_eq]; exact ⟨upN_inj, fun h => by rw [h]⟩)
                clear hil hvl hpl hndl li1 li2 hr i1 i2
                have hkP : k ≤ P.length := by have := hk.out; omega
                have hkb : ((k : Int) == 0) = false := by simp; omega
                have k0 : (1 : Int) ≤ k := by omega
                have k1 : (0 : Int) ≤ k := by omega
                have hn1 : IntKind.i64.wrap ((k : Int) - 1) = ((k - 1 : Nat) : Int) := by rw [IntWalk.i64_in _ (by omega)]; omega
                have hn2 : ((k - 1 : Nat) : Int) < k := by omega
                have hn3 : (0 : Int) ≤ ((k - 1 : Nat) : Int) := by omega
                have hkz : ¬ k = 0 := by omega
                have hkc : (k == 0) = false := by simp; omega
                have hkd : decide ((k : Int) = 0) = false := by simp; omega
                have hke : decide (k = 0) = false := by simp; omega
                by_cases hr0 : r = 0
                · have hrb : (r != 0) = false := by simp [hr0]
                  have HNE : Hid (ndl = ndx) := Lib.hid (HR.out.1 hr0)
                  clear hr0 HR
                  go_upto_region 16 with fail
                  have hbd : RowKit.Below wr.heap.size wr wr.drew := below_drewN (RowKit.Below.refl _ _) 1
                  have hS0 : wr.drew.cell? ⟨gl, (k - 1) * 2, none⟩ = some (.slice al1 (upL ndl.1).length cl1) ∧ wr.drew.cell? ⟨gl, (k - 1) * 2 + 1, none⟩ = some (.slice al2 (upL ndl.2).length cl2) ∧ wr.drew.cell? ⟨w2.heap.size, 0, none⟩ = some (.slice (some ⟨w1.heap.size, 0, none⟩) P.length P.length) ∧ wr.drew.cell? ⟨w1.heap.size, x * 2, none⟩ = some (.slice ax1 (upL ndx.1).length cx1) ∧ wr.drew.cell? ⟨w1.heap.size, x * 2 + 1, none⟩ = some (.slice ax2 (upL ndx.2).length cx2) := ⟨l1, l2, hbx, m1, m2⟩
                  go_still_tail 14, (by kernel_rfl)
                  repeat still_step
                  change wpList _ _ _ _ _ wr.drew
                  go_wp2_with fail
                  refine (CC.out _ hbd).mono ?_
                  rintro e WA ⟨rfl, hba⟩
                  have HWB : Hid (RowKit.Below wr.heap.size wr WA) := Lib.hid (hbd.trans (hba.mono (by simp)))
                  clear hba hbd hS0 CC l1 l2
                  have qb1 := (bcell HWB.out _ _ hgpw).trans hqc.1
                  have qb2 := (HWB.out.frozen (p := ⟨w.heap.size, x, none⟩) hgpw).trans hqc.2
                  have IW := Lib.hid (his.out.below' HWB.out)
                  have DW := Lib.hid (hda.out.below HWB.out)
                  have OW := Lib.hid (hod.out.below HWB.out)
                  have hszW := HWB.out.size
                  have I7 := Lib.hid (IW.out.setQ (i := x) (k := k - 1))
                  have oQ : Only WA (WA.setCell ⟨w.heap.size, x, none⟩ (.int .i64 ((k - 1 : Nat) : Int))) (fun q => q = w.heap.size) := Only.of_set _ rfl
                  have D7 := Lib.hid (DW.out.only oQ (fun q e => Or.inl (by omega)))
                  have O7 := Lib.hid (OW.out.only oQ (fun q e h => by have := own_eqp e; omega))
                  have S7 := Lib.hid (day_old' HBi.out HU.out HDD.out hds.out HX.out (by rw [getD_at HNX.out]; exact HE.out) (by omega) hk.out (by rw [getD_at HNX.out, HLO.out, HNE.out]))
                  have E7 : Hid (∀ y ∈ idx', b y < d ∨ y ∈ D'.take (j + 1)) := Lib.hid (fun y hy => by
                    rw [mem_take_succ HX.out]
                    rcases hel.out y hy with h2 | h2
                    · exact Or.inl h2
                    · exact Or.inr (Or.inl h2))
                  have hcast : ((k - 1 : Nat) : Int) = (k : Int) - 1 := by omega
                  rw [hcast] at I7 D7 O7
                  clear hcast oQ IW DW OW m1 m2 hbx hqc his hda hod hcd hds hel hn1 hn2 hn3
                  go_wp2
                  go_roundw
                  case rel => exact ⟨j + 1, k, _, c, _, _, by omega, by go_num, rfl, hk, I7, D7, O7, S7, E7⟩
                  case measure => first | (simp [intOf]; done) | (simp [intOf]; omega)
                · have hrb : (r != 0) = true := by simp [hr0]
                  have HNE : Hid (ndl ≠ ndx) := Lib.hid (fun h => hr0 (HR.out.2 h))
                  clear hr0 HR
                  go_upto_region 16 with fail
                  have hbd : RowKit.Below wr.heap.size wr wr.drew := below_drewN (RowKit.Below.refl _ _) 1
                  have hS0 : True := trivial
                  go_still_tail 14, (by kernel_rfl)
                  repeat still_step
                  change wpList _ _ _ _ _ wr.drew
                  go_wp2_with fail
                  refine (CC.out _ hbd).mono ?_
                  rintro e WA ⟨rfl, hba⟩
                  have HWB : Hid (RowKit.Below wr.heap.size wr WA) := Lib.hid (hbd.trans (hba.mono (by simp)))
                  clear hba hbd hS0 CC l1 l2
                  have HLst : Hid ((idx'.map (fun i => M'.getD i ([], []))).getLast? ≠ some ndx) := Lib.hid (by rw [HLO.out]; exact fun h => HNE.out (Option.some.inj h))
                  clear hn1 hn2 hn3 hkz hkc hkd hke
                  have mb1 := (bcell HWB.out _ _ hpw1).trans m1
                  have mb2 := (bcell HWB.out _ _ hpw1).trans m2
                  have mbx := (bcell HWB.out _ _ hpwb).trans hbx
                  have qb1 := (bcell HWB.out _ _ hgpw).trans hqc.1
                  have qb2 := (HWB.out.frozen (p := ⟨w.heap.size, x, none⟩) hgpw).trans hqc.2
                  have IW := Lib.hid (his.out.below' HWB.out)
                  have DW := Lib.hid (hda.out.below HWB.out)
                  have OW := Lib.hid (hod.out.below HWB.out)
                  have hszW := HWB.out.size
                  have hkP : k ≤ P.length := by have := hk.out; omega
                  clear m1 m2 hbx hqc his hda hod hcd
                  go_wp2_with (at_builtin; refine wpList_append_own_at _ rfl _ _ 26 rfl w4.heap.size 57 iN (.agg #[.slice none 0 0, .slice none 0 0]) 2 48 Try.underlying26 hiN hzN0 hzN1 hzN2 rfl (by decide) _ _ _ rfl (World.ownsRow.alloc IW.out.srt _) ⟨WA.heap.size, 0, none⟩ 1 1 [.slice ax1 (upL ndx.1).length cx1, .slice ax2 (upL ndx.2).length cx2] rfl rfl ?c1 ?c2 ?c3 ?c4 ?c5 ?_)
                  case c1 => exact World.news_of_block (heap_alloc_new _ _)
                  case c2 => first | exact ⟨rfl, rfl⟩ | (intro u hu; simp at hu; rcases hu with rfl | rfl <;> rfl)
                  case c3 => unfold maxLen; omega
                  case c4 => omega
                  case c5 => simp; omega
                  intro v6 w6 hown6 hgrow6 hnil6 hat6
                  have hal : RowKit.Below WA.heap.size WA (WA.alloc (.cells #[.slice ax1 (upL ndx.1).length cx1, .slice ax2 (upL ndx.2).length cx2] 57)) := (RowKit.Below.refl _ _).alloc (Nat.le_refl _) _
                  have I6 := (IW.out.below' hal).push (i := x) (p := (.slice ax1 (upL ndx.1).length cx1, .slice ax2 (upL ndx.2).length cx2)) hgrow6 hown6 (by
                    rcases hat6 with h | h
                    · exact Or.inl h
                    · exact Or.inr (by rw [h]; first | rfl | simp)) HPX.out HXI.out
                  have hsl := fun q e => (World.ownsRow.lt IW.out.srt q e).1
                  have hoA : Only WA w6 (fun q => w4.heap.size ≤ q) := (Only.of_below (F := fun q => w4.heap.size ≤ q) hal).trans (Only.of_grown (F := fun q => w4.heap.size ≤ q) hgrow6 (fun q e => hsl q e)) (fun _ _ h => h)
                  have D6 := DW.out.only hoA (fun q e => Or.inr e)
                  have O6 := OW.out.only hoA (fun q e h => by have := own_eqp e; omega)
                  have qc1 := (hoA.cell (o := x) (by omega : w.heap.size < WA.heap.size) (by omega)).trans qb1
                  have qc2 := (hoA.frozen (o := x) (by omega : w.heap.size < WA.heap.size) (by omega)).trans qb2
                  obtain ⟨a6, c6, hv6⟩ := own_form' I6.srt
                  rw [List.length_append, List.length_singleton, ← hk.out] at hv6
                  subst hv6
                  have I7 := Lib.hid (I6.setQ (i := x) (k := k))
                  have oQ : Only w6 (w6.setCell ⟨w.heap.size, x, none⟩ (.int .i64 (k : Int))) (fun q => q = w.heap.size) := Only.of_set _ rfl
                  have D7 := Lib.hid (D6.only oQ (fun q e => Or.inl (by omega)))
                  have O7 := Lib.hid (O6.only oQ (fun q e h => by have := own_eqp e; omega))
                  have K7 : Hid (k + 1 = (idx' ++ [x]).length) := Lib.hid (by rw [List.length_append, List.length_singleton, ← hk.out])
                  have S7 := Lib.hid (day_new' HBi.out HU.out HDD.out hds.out HX.out (by rw [getD_at HNX.out]; exact HE.out) (by omega) hk.out (by rw [getD_at HNX.out]; exact HLst.out))
                  have E7 : Hid (∀ y ∈ idx' ++ [x], b y < d ∨ y ∈ D'.take (j + 1)) := Lib.hid (fun y hy => by
                    rw [mem_take_succ HX.out]
                    rcases List.mem_append.1 hy with h | h
                    · rcases hel.out y h with h2 | h2
                      · exact Or.inl h2
                      · exact Or.inr (Or.inl h2)
                    · exact Or.inr (Or.inr (by simpa using h)))
                  have hkn : (k : Int) + 1 - 1 = (k : Int) := by omega
                  have hkn2 : ((k + 1 : Nat) : Int) - 1 = (k : Int) := by omega
                  have hkn3 : ((k + 1 : Nat) : Int) ≤ 100001 := by omega
                  clear hown6 hgrow6 hnil6 hat6 hal hsl hoA oQ I6 D6 O6 IW DW OW mb1 mb2 mbx qb1 qb2 hk hds hel
                  go_wp2
                  go_roundw
                  case rel => exact ⟨j + 1, k + 1, a6, c6, _, _, by omega, by go_num, rfl, K7, I7, D7, O7, S7, E7⟩
                  case measure => first | (simp [intOf]; done) | (simp [intOf]; omega)
            · have hje : j = l.length := by omega
              subst hje
              have HD2 : Hid (Day0 P b (d + 1) Q' M' idx') := Lib.hid ⟨by
                have h := hds.out
                rw [← hlen] at h
                exact day_end HDD.out h, fun i hi => by
                  rcases hel.out i hi with h | h
                  · omega
                  · have := ((HDD.out.mem i).1 (List.mem_of_mem_take h)).2; omega⟩
              clear hod hds hel
              have hLL := HLl.out
              go_wp2
              go_roundw
              case rel => exact ⟨d + 1, k, a, c, Q', M', vs', idx', _, by omega, by go_num, rfl, hk, his, HD2, hda⟩
              case measure => first | (simp [intOf]; done) | (simp [intOf]; omega)
    · have hde : d = L.length := by omega
      subst hde
      have HF : Hid (OwnF wr w.heap.size (.slice a k c) (idx.map (fun i => vs.getD i nilP)) ((idx.map (fun i => M.getD i ([], []))).map upN)) := Lib.hid (by
        have h := OwnF.of_pick his.out.lists his.out.srt his.out.apart (fun i hi => by rw [List.length_map, his.out.mlen]; exact his.out.idxlt i hi) his.out.nodup
        have e : (idx.map (fun i => M.getD i ([], []))).map upN = idx.map (fun i => (M.map upN).getD i ([], [])) := by
          rw [List.map_map]
          exact List.map_congr_left (fun x _ => (upN_getD M x).symm)
        rw [e]
        exact h.mono (by have := his.out.s4; omega))
      have HC := Lib.hid (days_all hd0.out.canon HDl.out)
      have HQ := Lib.hid his.out.places
      have HB := Lib.hid his.out.below
      clear his hda hd0
      go_wp2
      have e := hk.out
      have e2 : k = (idx.map (fun i => M.getD i ([], []))).length := by rw [List.length_map]; exact e
      go_ret2
      refine ⟨a, c, idx.map (fun i => vs.getD i nilP), w.heap.size, idx.map (fun i => M.getD i ([], [])), Q, ?_, ?_, HQ.out, HC.out, HB.out⟩
      · rw [← e2]; rfl
      · rw [← e2]; exact HF.out
end
section
section
open Go.RowKit
set_option linter.unusedVariables false
set_option linter.unusedSimpArgs false
theorem goodI_resN (v : Value) (f : List Nz) (r : Bool) (hr : Hid (goodB f = r)) (w : World) (lo hi : Nat) (hh : hi ≤ w.heap.size) (hv : NodesZ w lo hi v f) :
    Calls Try.prog 48 #[.agg #[v]] w fun e w' => e = .returned (.bool r) ∧ Below w.heap.size w w' := by
  rw [← hr.out]
  exact goodI_calls v f w lo hi hh hv
set_option maxHeartbeats 1000000 in
theorem formOf_calls (v : Value) (P : List Nd) (f : List Nz) (ok : Bool) (w : World) (lo hi : Nat) (hh : hi ≤ w.heap.size) (hv : NodesZ w lo hi v (P.map upN)) (hu : Under P) (h0 : 0 < P.length) (hr : ∀ k, k < P.length → Reached P (P.length - 1) k) (hl : P.length ≤ 100000) (hn : ∀ nd ∈ P, nd.1.length ≤ 1000 ∧ nd.2.length ≤ 1000)
    (hok : Hid (fitsN (formM P) = ok)) (hf : Hid (outV P = f)) :
    Calls Try.prog 32 #[v] w fun e w' => ∃ a c vs, e = .returned (.tuple #[.agg #[.slice a f.length c], .bool ok]) ∧ OwnF w' w.heap.size (.slice a f.length c) vs f ∧ Below w.heap.size w w' := by
  have HB0 := Lib.hid fun o => show Below w.heap.size w (w.alloc o) from (Below.refl _ _).alloc (Nat.le_refl _) _
  have CO := Lib.hid fun (W : World) (hW : Below w.heap.size w W) => inOrder_calls v P W lo hi (Nat.le_trans hh hW.size) (hv.below hW hh) hu hl hn
  have HG := Lib.hid fun (out : List Nd) (pl : Nat → Nat) (h : Canon P (bOf P) (fun _ => True) out pl) => order_is hu h0 hr h
  have HGF := Lib.hid (good_fits P hu h0 hr)
  have hvs : ∃ ao n c, v = .slice ao n c := by obtain ⟨ao, c, e, _⟩ := hv; exact ⟨ao, _, c, e⟩
  obtain ⟨ao, nv, cv, rfl⟩ := hvs
  clear hv hu h0 hr hl hn
  go_enter Try.func32, Try.ntmps32
  go_wp2_with fail
  refine (CO.out _ (HB0.out _)).mono ?_
  rintro e w1 ⟨a, c, vs, gq, out, Q, rfl, hof, hoq, hcan, hb1⟩
  have hz0 : (w.alloc (.cells #[.slice none 0 0] 28)).heap.size = w.heap.size + 1 := by simp
  rw [hz0] at hof hb1
  obtain rfl := HG.out _ _ hcan
  have HB1 := Lib.hid ((HB0.out _).trans (hb1.mono (by omega)))
  have hbx : BoxAt w1 w.heap.size (.slice none 0 0) := ⟨(hb1.cell (p := ⟨w.heap.size, 0, none⟩) (by show w.heap.size < w.heap.size + 1; omega)).trans (by go_simp), (hb1.frozen (p := ⟨w.heap.size, 0, none⟩) (by show w.heap.size < w.heap.size + 1; omega)).trans (by go_simp)⟩
  have hs1 := hb1.size
  have HF1 := Lib.hid hof
  clear hof hoq hcan hb1 CO HG
  obtain ⟨n, hN⟩ : ∃ n, (formM P).length = n := ⟨_, rfl⟩
  rw [hN] at HF1 ⊢
  have hba := HB0.out
  have hbal : Below w1.heap.size w1 (w1.alloc (.cells #[.slice a n c] 28)) := (Below.refl _ _).alloc (Nat.le_refl _) _
  have HF2 := Lib.hid (HF1.out.below hbal)
  have CG := Lib.hid (goodI_resN (.slice a n c) ((formM P).map upN) ok (Lib.hid (HGF.out.trans hok.out)) (w1.alloc (.cells #[.slice a n c] 28)) (w.heap.size + 1) (w1.alloc (.cells #[.slice a n c] 28)).heap.size (Nat.le_refl _) HF2.out.nodesZ)
  have HN := Lib.hid hN
  clear hN
  go_wp2_with fail
  refine CG.out.mono ?_
  rintro e w2 ⟨rfl, hb2⟩
  have hb12 : Below w1.heap.size w1 w2 := hbal.trans (hb2.mono (by simp))
  have hbx2 := hbx.below hb12
  have k1 : w2.cell? ⟨w1.heap.size, 0, none⟩ = some (.slice a n c) := (bcell hb2 _ _ (by simp)).trans (by go_simp)
  have HF3 := Lib.hid (HF1.out.below hb12)
  have HB2 := Lib.hid (HB1.out.trans (hb12.mono (by omega)))
  have hc0 := hbx2.1
  have hz02 := hbx2.2
  have hsz2 := block_of_cell hbx2.1
  clear hb2 hb12 hbal hbx CG HB1 HF1 HF2
  cases ok with
  | true =>
    have HFe : Hid ((formM P).map upN = f) := Lib.hid (by rw [← hf.out, outV_yes hok.out])
    have HL : Hid (n = f.length) := Lib.hid (by rw [← HFe.out, List.length_map, HN.out])
    have O4 : Hid (OwnF (w2.setCell ⟨w.heap.size, 0, none⟩ (.slice a n c)) w.heap.size (.slice a n c) vs f) := Lib.hid (by
      rw [← HFe.out]
      exact (HF3.out.setCell (by show w.heap.size < w.heap.size + 1; omega)).mono (by omega))
    have B4 := Lib.hid (HB2.out.setCell (p := ⟨w.heap.size, 0, none⟩) (Nat.le_refl _) (.slice a n c))
    have hcr := World.cell?_setCell_same w2 ⟨w.heap.size, 0, none⟩ (.slice a n c) hc0
    clear HF3 HB2 hbx2
    go_wp2_with fail
    refine bodyPost_ret (v := .tuple #[.agg #[.slice a n c], .bool true]) (by simp [results, Try.results32, go_sem, hcr]) rfl ⟨a, c, vs, ?_, ?_, B4.out⟩
    · rw [← HL.out]
    · rw [← HL.out]; exact O4.out
  | false =>
    obtain rfl : f = [] := by rw [← hf.out, outV_no hok.out]
    have B4 := Lib.hid (HB2.out.setCell (p := ⟨w.heap.size, 0, none⟩) (Nat.le_refl _) (.slice none 0 0))
    have hcr := World.cell?_setCell_same w2 ⟨w.heap.size, 0, none⟩ (.slice none 0 0) hc0
    clear HF3 HB2 hbx2
    go_wp2_with fail
    exact bodyPost_ret (v := .tuple #[.agg #[.slice none 0 0], .bool false]) (by simp [results, Try.results32, go_sem, hcr]) rfl ⟨none, 0, [], rfl, OwnF.nil _ _, B4.out⟩
end
section
open Go.RowKit
set_option linter.unusedVariables false
set_option linter.unusedSimpArgs false
/-- a list of numbers that lies apart from a block -/
def IntsX (w : World) (g : Nat) (v : Value) (l : List Int) : Prop := ∃ lo hi, hi ≤ w.heap.size ∧ (g < lo ∨ hi ≤ g) ∧ IntsZ w lo hi v l
theorem IntsX.below {w w' : World} {g : Nat} {v : Value} {l : List Int} (h : IntsX w g v l) (hb : Below w.heap.size w w') : IntsX w' g v l := by
  obtain ⟨lo, hi, h1, h2, h3⟩ := h
  exact ⟨lo, hi, Nat.le_trans h1 hb.size, h2, h3.below hb h1⟩
theorem IntsX.only {w w' : World} {g : Nat} {v : Value} {l : List Int} (h : IntsX w g v l) (ho : Only w w' (fun b => b = g)) : IntsX w' g v l := by
  obtain ⟨lo, hi, h1, h2, h3⟩ := h
  exact ⟨lo, hi, Nat.le_trans h1 ho.size, h2, h3.keep (fun b o e1 e2 => ho.cell (by omega) (by omega))⟩
theorem IntsX.ints {w : World} {g : Nat} {v : Value} {l : List Int} (h : IntsX w g v l) : IntsZ w 0 w.heap.size v l := by
  obtain ⟨lo, hi, h1, h2, h3⟩ := h
  exact h3.wide (Nat.zero_le _) h1
structure RowZ (w : World) (base g n : Nat) (vs : List (Value × Value)) (F : List Nz) (k : Nat) : Prop where
  row : w.ownsRow base 57 2 (.slice (some ⟨g, 0, none⟩) n n) n (rowN2 vs)
  len : vs.length = n
  part : ∀ (j : Nat) (nd : Nz), j < k → F[j]? = some nd → ∃ p, vs[j]? = some p ∧ IntsX w g p.1 nd.1 ∧ IntsX w g p.2 nd.2
theorem RowZ.below {w w' : World} {base g n : Nat} {vs : List (Value × Value)} {F : List Nz} {k : Nat} (h : RowZ w base g n vs F k) (hb : Below w.heap.size w w') : RowZ w' base g n vs F k :=
  ⟨own_only h.row (Only.of_below (F := fun _ => False) hb) (fun _ _ => id), h.len, fun j nd hj hf => by
    obtain ⟨p, h1, h2, h3⟩ := h.part j nd hj hf
    exact ⟨p, h1, h2.below hb, h3.below hb⟩⟩
theorem RowZ.made {w : World} {base g n : Nat} {F : List Nz} (h : w.ownsRow base 57 2 (.slice (some ⟨g, 0, none⟩) n n) n (madeCells (Value.agg #[.slice none 0 0, .slice none 0 0]).cells (n * 2)).toList) : RowZ w base g n (List.replicate n nilP) F 0 :=
  ⟨by rw [← rowN2_nils]; exact h, by simp, fun j nd hj _ => by omega⟩
theorem RowZ.set {w : World} {base g n : Nat} {vs : List (Value × Value)} {F : List Nz} {k : Nat} {nd : Nz} {p : Value × Value} (h : RowZ w base g n vs F k) (hk : k < n) (hf : F[k]? = some nd) (h1 : IntsX w g p.1 nd.1) (h2 : IntsX w g p.2 nd.2) :
    RowZ ((w.setCell ⟨g, k * 2, none⟩ p.1).setCell ⟨g, k * 2 + 1, none⟩ p.2) base g n (vs.set k p) F (k + 1) := by
  have s1 := World.ownsRow.stored h.row (k * 2) p.1
  have s2 := World.ownsRow.stored s1.1 (k * 2 + 1) p.2
  rw [rowN2_set] at s2
  have ho : Only w ((w.setCell ⟨g, k * 2, none⟩ p.1).setCell ⟨g, k * 2 + 1, none⟩ p.2) (fun b => b = g) := (Only.of_set (F := fun b => b = g) (p := ⟨g, k * 2, none⟩) p.1 rfl).trans (Only.of_set (F := fun b => b = g) (p := ⟨g, k * 2 + 1, none⟩) p.2 rfl) (fun _ _ e => e)
  refine ⟨s2.1, by rw [List.length_set]; exact h.len, fun j n0 hj hf0 => ?_⟩
  by_cases e : j = k
  · subst e
    rw [hf] at hf0
    injection hf0 with hf0
    subst hf0
    exact ⟨p, by rw [List.getElem?_set_self (by rw [h.len]; exact hk)], h1.only ho, h2.only ho⟩
  · obtain ⟨q, q1, q2, q3⟩ := h.part j n0 (by omega) hf0
    exact ⟨q, by rw [List.getElem?_set_ne (fun h => e h.symm)]; exact q1, q2.only ho, q3.only ho⟩
theorem RowZ.cells {w : World} {base g n : Nat} {vs : List (Value × Value)} {F : List Nz} {k : Nat} (h : RowZ w base g n vs F k) {j : Nat} (hj : j < n) :
    ∃ p, vs[j]? = some p ∧ w.cell? ⟨g, j * 2, none⟩ = some p.1 ∧ w.cell? ⟨g, j * 2 + 1, none⟩ = some p.2 ∧ w.frozen? ⟨g, j * 2, none⟩ = false ∧ w.frozen? ⟨g, j * 2 + 1, none⟩ = false := by
  obtain ⟨p, hp⟩ := lt_get (l := vs) (i := j) (by rw [h.len]; exact hj)
  have hr := rowN2_at vs j p hp
  refine ⟨p, hp, ?_, ?_, World.ownsRow.frozenAt h.row _, World.ownsRow.frozenAt h.row _⟩
  · rw [World.ownsRow.cellAt h.row (j * 2) (by omega)]; exact hr.1
  · rw [World.ownsRow.cellAt h.row (j * 2 + 1) (by omega)]; exact hr.2
theorem RowZ.nodesZ {w : World} {base g n : Nat} {vs : List (Value × Value)} {F : List Nz} (h : RowZ w base g n vs F n) (hl : F.length = n) : NodesZ w 0 w.heap.size (.slice (some ⟨g, 0, none⟩) n n) F := by
  have hlt := World.ownsRow.lt h.row g rfl
  refine ⟨_, n, by rw [hl], by rw [hl]; exact ⟨Nat.le_refl _, (World.ownsRow.caps h.row).2⟩, fun j nd hj => ?_⟩
  have hjn : j < n := by have := get_lt hj; omega
  obtain ⟨p, hp, h1, h2⟩ := h.part j nd hjn hj
  obtain ⟨q, hq, c1, c2, _, _⟩ := h.cells hjn
  rw [hp] at hq
  injection hq with hq
  subst hq
  exact ⟨g, 0, p.1, p.2, rfl, Nat.zero_le _, hlt.2, by rw [Nat.zero_add]; exact c1, by rw [Nat.zero_add]; exact c2, h1.ints, h2.ints⟩
end
end
end

end Go.Proofs.Ytabfdaofikccmaa
