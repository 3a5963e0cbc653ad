/- Lists of forms: read, the call's own, compared, marked. -/
import Derived.Test.YtiacgcpcgabdoaaFmMarkN
import Derived.Test.YtiacgcpcgabdoaaFmLaw
import Derived.Test.YtiacgcpcgabdoaaFmToOwn
namespace Go.Proofs.Ytiacgcpcgabdoaa
set_option linter.unusedVariables false
set_option linter.unusedSimpArgs false
open Go.RowKit

/-- a slice of forms, read -/
def FormsZ (w : World) (lo hi : Nat) (v : Value) (Fs : List (List Nz)) : Prop :=
  ∃ ao c, v = .slice ao Fs.length c ∧ (Fs.length ≤ c ∧ c ≤ 9223372036854775807) ∧ ∀ (j : Nat) (f : List Nz), Fs[j]? = some f → ∃ b off vf, ao = some ⟨b, off, none⟩ ∧ lo ≤ b ∧ b < hi ∧ w.cell? ⟨b, off + j, none⟩ = some vf ∧ NodesZ w lo hi vf f

theorem FormsZ.keep {w w' : World} {lo hi : Nat} {v : Value} {Fs : List (List Nz)} (h : FormsZ w lo hi v Fs) (hs : SameIn lo hi w w') : FormsZ w' lo hi v Fs := by
  obtain ⟨ao, c, rfl, hl, hn⟩ := h
  refine ⟨ao, c, rfl, hl, fun j f hj => ?_⟩
  obtain ⟨b, off, vf, e, h1, h2, h3, h4⟩ := hn j f hj
  exact ⟨b, off, vf, e, h1, h2, (hs b _ h1 h2).trans h3, h4.keep hs⟩
theorem FormsZ.below {w w' : World} {lo hi B : Nat} {v : Value} {Fs : List (List Nz)} (h : FormsZ w lo hi v Fs) (hb : Below B w w') (hB : hi ≤ B) : FormsZ w' lo hi v Fs := h.keep (Below.sameIn hb hB)
theorem FormsZ.wide {w : World} {lo hi lo' hi' : Nat} {v : Value} {Fs : List (List Nz)} (h : FormsZ w lo hi v Fs) (h1 : lo' ≤ lo) (h2 : hi ≤ hi') : FormsZ w lo' hi' v Fs := by
  obtain ⟨ao, c, rfl, hl, hn⟩ := h
  refine ⟨ao, c, rfl, hl, fun j f hj => ?_⟩
  obtain ⟨b, off, vf, e, k1, k2, k3, k4⟩ := hn j f hj
  exact ⟨b, off, vf, e, by omega, by omega, k3, k4.wide h1 h2⟩
theorem FormsZ.only {w w' : World} {lo hi : Nat} {v : Value} {Fs : List (List Nz)} {F : Nat → Prop} (h : FormsZ w lo hi v Fs) (hh : hi ≤ w.heap.size) (ho : Only w w' F) (hn : ∀ b, lo ≤ b → b < hi → ¬ F b) : FormsZ w' lo hi v Fs := h.keep (fun b o h1 h2 => ho.cell (by omega) (hn b h1 h2))
theorem FormsZ.nil (w : World) (lo hi : Nat) : FormsZ w lo hi (.slice none 0 0) [] := ⟨none, 0, rfl, by simp, fun j f hj => by simp at hj⟩

theorem form2_next {wr W w1 : World} {b o b' o' : Nat} {v1 v1' : Value} (lb : b < wr.heap.size) (lb' : b' < wr.heap.size) (hb : Below W.heap.size W w1) (h : W.cell? ⟨b, o, none⟩ = some v1 ∧ W.cell? ⟨b', o', none⟩ = some v1' ∧ Below wr.heap.size wr W) : w1.cell? ⟨b, o, none⟩ = some v1 ∧ w1.cell? ⟨b', o', none⟩ = some v1' ∧ Below wr.heap.size wr w1 := by
  obtain ⟨h1, h3, h5⟩ := h
  have hz := h5.size
  exact ⟨(bcell hb b _ (by omega)).trans h1, (bcell hb b' _ (by omega)).trans h3, h5.trans (hb.mono hz)⟩

set_option maxHeartbeats 1000000 in
theorem eqFormS_same (v v' : Value) (Fs : List (List Nz)) (w : World) (lo hi lo' hi' : Nat) (hh : hi ≤ w.heap.size) (hh' : hi' ≤ w.heap.size) (h : FormsZ w lo hi v Fs) (h' : FormsZ w lo' hi' v' Fs) :
    Calls Try.prog 27 #[v, v'] w fun e w' => e = .returned (.bool true) ∧ Below w.heap.size w w' := by
  have H := Lib.hid h
  have H' := Lib.hid h'
  obtain ⟨ao, c, rfl, hl, _⟩ := h
  obtain ⟨ao', c', rfl, _, _⟩ := h'
  go_enter Try.func27, Try.ntmps27
  go_wp2
  go_loopw [5] (fun i wr => ∃ k : Nat, k ≤ Fs.length ∧ i = .int .i64 k ∧ Hid (Below w.heap.size w wr)) (fun i _ => Fs.length - (intOf i).toNat)
  case atStart => exact ⟨0, Nat.zero_le _, rfl, Lib.hid (Below.refl _ _)⟩
  case round =>
    obtain ⟨k, hk, rfl, hb⟩ := hrel
    by_cases hlt : k < Fs.length
    · obtain ⟨f, hx⟩ := lt_get hlt
      obtain ⟨ao1, c1, e1, _, hn⟩ := H.out.below hb.out hh
      obtain ⟨b, off, v1, rfl, _, _, p1, i1⟩ := hn k f hx
      injection e1 with e1 q1 q2
      obtain rfl := e1
      clear q1 q2
      obtain ⟨ao2, c2, e2, _, hn2⟩ := H'.out.below hb.out hh'
      obtain ⟨b', off', v1', rfl, _, _, p1', i1'⟩ := hn2 k f hx
      injection e2 with e2 q1 q2
      obtain rfl := e2
      clear q1 q2
      clear hn hn2 hx H H'
      have hbl := hb.out.size
      have lb : b < wr.heap.size := block_of_cell p1
      have lb' : b' < wr.heap.size := block_of_cell p1'
      have C := Lib.hid fun (W : World) (hW : Below wr.heap.size wr W) => eqForm_same v1 v1' f W lo hi lo' hi' (by have := hW.size; omega) (by have := hW.size; omega) (i1.below hW (by omega)) (i1'.below hW (by omega))
      clear i1 i1'
      have hS0 : wr.drew.cell? ⟨b, off + k, none⟩ = some v1 ∧ wr.drew.cell? ⟨b', off' + k, none⟩ = some v1' ∧ Below wr.heap.size wr wr.drew := ⟨p1, p1', below_drewN (Below.refl _ _) 1⟩
      clear p1 p1'
      have b0 : (0 : Int) ≤ k := by omega
      have b1 : (k : Int) < Fs.length := by omega
      go_wp2
      go_region_held3 (fun w' : World => w'.cell? ⟨b, off + k, none⟩ = some v1 ∧ w'.cell? ⟨b', off' + k, none⟩ = some v1' ∧ Below wr.heap.size wr w') (first | exact hS0 | (go_split_ands; exact ⟨‹_›, ‹_›, ‹_›⟩) | (go_split_ands; exact form2_next lb lb' hb1 ⟨‹_›, ‹_›, ‹_›⟩)) (first | (go_at_call 54; go_split_ands; refine (C.out _ (by assumption)).mono ?_; rintro e w1 ⟨rfl, hb1⟩))
      go_split_ands
      go_wp2
      go_roundw
      case rel => exact ⟨k + 1, by omega, by go_num, Lib.hid (hb.out.trans (Below.mono (by assumption) hbl))⟩
      case measure => first | (simp [intOf]; done) | (simp [intOf]; omega)
    · go_wp2
      go_ret
      exact ⟨rfl, hb.out⟩

/-- the blocks of a form of the call's own -/
def AllF (p : Value × List (Value × Value)) (b : Nat) : Prop := p.1.ownBlock = some b ∨ BlkF p.2 b

structure OwnFS (w : World) (base : Nat) (v : Value) (ps : List (Value × List (Value × Value))) (Fs : List (List Nz)) : Prop where
  row : w.ownsRow base 26 1 v Fs.length (ps.map Prod.fst)
  len : ps.length = Fs.length
  each : ∀ (j : Nat) (f : List Nz) (p : Value × List (Value × Value)), Fs[j]? = some f → ps[j]? = some p → OwnF w base p.1 p.2 f
  two : ∀ (j : Nat) (p : Value × List (Value × Value)), ps[j]? = some p → ∀ b, AllF p b → v.ownBlock ≠ some b
  sep : ∀ (i j : Nat) (p q : Value × List (Value × Value)), i ≠ j → ps[i]? = some p → ps[j]? = some q → ∀ b, AllF p b → ¬ AllF q b

theorem OwnF.all {w : World} {base : Nat} {p : Value × List (Value × Value)} {f : List Nz} (h : OwnF w base p.1 p.2 f) {b : Nat} (hb : AllF p b) : base ≤ b ∧ b < w.heap.size := by
  rcases hb with hb | hb
  · exact World.ownsRow.lt h.nodes b hb
  · exact h.blk hb

/-- what is written lies apart from the form -/
theorem OwnF.apart {w w' : World} {base : Nat} {p : Value × List (Value × Value)} {f : List Nz} {F : Nat → Prop} (h : OwnF w base p.1 p.2 f) (ho : Only w w' F) (hn : ∀ b, AllF p b → ¬ F b) : OwnF w' base p.1 p.2 f :=
  ⟨own_only h.nodes ho (fun g e => hn g (Or.inl e)), h.len, fun j nd q h1 h2 => ⟨(h.list j nd q h1 h2).1.only ho (fun g e => hn g (Or.inr ⟨j, q, h2, Or.inl e⟩)), (h.list j nd q h1 h2).2.only ho (fun g e => hn g (Or.inr ⟨j, q, h2, Or.inr e⟩))⟩, h.two, h.sep⟩

theorem OwnFS.all {w : World} {base : Nat} {v : Value} {ps : List (Value × List (Value × Value))} {Fs : List (List Nz)} (h : OwnFS w base v ps Fs) {j : Nat} {p : Value × List (Value × Value)} (hp : ps[j]? = some p) {b : Nat} (hb : AllF p b) : base ≤ b ∧ b < w.heap.size := by
  obtain ⟨f, hf⟩ := lt_get (l := Fs) (i := j) (by rw [← h.len]; exact get_lt hp)
  exact (h.each j f p hf hp).all hb

/-- all of the list's blocks -/
def AllFS (v : Value) (ps : List (Value × List (Value × Value))) (b : Nat) : Prop := v.ownBlock = some b ∨ ∃ (j : Nat) (p : Value × List (Value × Value)), ps[j]? = some p ∧ AllF p b

theorem OwnFS.allS {w : World} {base : Nat} {v : Value} {ps : List (Value × List (Value × Value))} {Fs : List (List Nz)} (h : OwnFS w base v ps Fs) {b : Nat} (hb : AllFS v ps b) : base ≤ b ∧ b < w.heap.size := by
  rcases hb with hb | ⟨j, p, hp, hb⟩
  · exact World.ownsRow.lt h.row b hb
  · exact h.all hp hb

theorem OwnFS.only {w w' : World} {base : Nat} {v : Value} {ps : List (Value × List (Value × Value))} {Fs : List (List Nz)} {F : Nat → Prop} (h : OwnFS w base v ps Fs) (ho : Only w w' F) (hn : ∀ b, AllFS v ps b → ¬ F b) : OwnFS w' base v ps Fs :=
  ⟨own_only h.row ho (fun g e => hn g (Or.inl e)), h.len, fun j f p h1 h2 => (h.each j f p h1 h2).apart ho (fun b hb => hn b (Or.inr ⟨j, p, h2, hb⟩)), h.two, h.sep⟩
theorem OwnFS.below {w w' : World} {base : Nat} {v : Value} {ps : List (Value × List (Value × Value))} {Fs : List (List Nz)} (h : OwnFS w base v ps Fs) (hb : Below w.heap.size w w') : OwnFS w' base v ps Fs := h.only (Only.of_below (F := fun _ => False) hb) (fun _ _ => id)
theorem OwnFS.mono {w : World} {base base' : Nat} {v : Value} {ps : List (Value × List (Value × Value))} {Fs : List (List Nz)} (h : OwnFS w base v ps Fs) (hb : base' ≤ base) : OwnFS w base' v ps Fs :=
  ⟨World.ownsRow.mono h.row hb, h.len, fun j f p h1 h2 => (h.each j f p h1 h2).mono hb, h.two, h.sep⟩
theorem OwnFS.setCell {w : World} {base : Nat} {v : Value} {ps : List (Value × List (Value × Value))} {Fs : List (List Nz)} {p : Addr} {u : Value} (h : OwnFS w base v ps Fs) (hp : p.block < base) : OwnFS (w.setCell p u) base v ps Fs :=
  h.only (Only.of_set (F := fun b => b = p.block) u rfl) (fun b hb e => by have := h.allS hb; omega)
theorem OwnFS.nil (w : World) (base : Nat) : OwnFS w base (.slice none 0 0) [] [] :=
  ⟨World.ownsRow_nil _ _ _ _, rfl, fun j nd p h => by simp at h, fun j p h => by simp at h, fun i j p q _ h => by simp at h⟩

theorem OwnFS.shape {w : World} {base : Nat} {v : Value} {ps : List (Value × List (Value × Value))} {Fs : List (List Nz)} (h : OwnFS w base v ps Fs) : ∃ a c, v = .slice a Fs.length c := by
  rcases h.row.2 with ⟨h1, h0⟩ | ⟨g, c, cs, h1, _⟩
  · exact ⟨none, 0, by rw [h1, h0]⟩
  · exact ⟨_, _, h1⟩

theorem OwnFS.form_at {w : World} {base i : Nat} {v : Value} {ps : List (Value × List (Value × Value))} {Fs : List (List Nz)} {f : List Nz} (h : OwnFS w base v ps Fs) (hi : Fs[i]? = some f) :
    ∃ (g c : Nat) (p : Value × List (Value × Value)), v = .slice (some ⟨g, 0, none⟩) Fs.length c ∧ ps[i]? = some p ∧ w.cell? ⟨g, i, none⟩ = some p.1 ∧ OwnF w base p.1 p.2 f ∧ (Fs.length ≤ c ∧ c ≤ 9223372036854775807) ∧ base ≤ g ∧ g < w.heap.size := by
  have hil := get_lt hi
  rcases h.row.2 with ⟨h1, h0⟩ | ⟨g, c, cs, h1, _⟩
  · omega
  · subst h1
    have hn := h.row
    have hlt := World.ownsRow.lt hn _ rfl
    obtain ⟨p, hp⟩ := lt_get (l := ps) (i := i) (by rw [h.len]; exact hil)
    refine ⟨g, _, p, rfl, hp, ?_, h.each i f p hi hp, World.ownsRow.caps hn, hlt.1, hlt.2⟩
    rw [World.ownsRow.cellAt hn i (by omega), List.getElem?_map, hp]
    rfl

theorem OwnFS.formsZ {w : World} {base : Nat} {v : Value} {ps : List (Value × List (Value × Value))} {Fs : List (List Nz)} (h : OwnFS w base v ps Fs) : FormsZ w base w.heap.size v Fs := by
  rcases h.row.2 with ⟨h1, h0⟩ | ⟨g, c, cs, h1, _⟩
  · have hl : Fs = [] := List.length_eq_zero_iff.1 h0
    subst hl
    exact ⟨none, 0, by rw [h1]; rfl, by simp, fun j f hj => by simp at hj⟩
  · subst h1
    refine ⟨_, _, rfl, World.ownsRow.caps h.row, fun j f hj => ?_⟩
    obtain ⟨g', c', p, e, hp, hc, ho, _, h1, h2⟩ := h.form_at hj
    injection e with e _ _
    injection e with e
    injection e with e _ _
    subst e
    exact ⟨g, 0, p.1, rfl, h1, h2, by rw [Nat.zero_add]; exact hc, ho.nodesZ⟩

/-- one form is written -/
theorem OwnFS.set {w w' : World} {base j : Nat} {v : Value} {ps : List (Value × List (Value × Value))} {Fs : List (List Nz)} {f f' : List Nz} {p : Value × List (Value × Value)} (h : OwnFS w base v ps Fs) (hj : Fs[j]? = some f) (hp : ps[j]? = some p)
    (ho : Only w w' (BlkF p.2)) (hl : OwnF w' base p.1 p.2 f') : OwnFS w' base v ps (Fs.set j f') := by
  refine ⟨by rw [List.length_set]; exact own_only h.row ho (fun g h1 h2 => h.two j p hp g (Or.inr h2) h1), by rw [List.length_set]; exact h.len, fun i n0 q hi hq => ?_, h.two, h.sep⟩
  rcases set_get hi with ⟨e1, e2⟩ | ⟨hne, hi⟩
  · subst e1
    rw [hp] at hq
    injection hq with hq
    subst hq
    rw [e2]
    exact hl
  · exact (h.each i n0 q hi hq).apart ho (fun b hb hb2 => h.sep i j q p hne hq hp b hb (Or.inr hb2))

/-- the forms' numbers, told through -/
def markFS : List (List Nz) → Int → List (List Nz) × Int
  | [], k => ([], k)
  | f :: Fs, k => ((markF f k).1 :: (markFS Fs (markF f k).2).1, (markFS Fs (markF f k).2).2)

def szFS (Fs : List (List Nz)) : Nat := (Fs.map (fun f => (f.map szN).sum)).sum

theorem markFS_len (Fs : List (List Nz)) (k : Int) : (markFS Fs k).1.length = Fs.length := by
  induction Fs generalizing k with
  | nil => rfl
  | cons f Fs ih => simp [markFS, ih]

theorem markFS_snoc (Fs : List (List Nz)) (f : List Nz) (k : Int) : markFS (Fs ++ [f]) k = ((markFS Fs k).1 ++ [(markF f (markFS Fs k).2).1], (markF f (markFS Fs k).2).2) := by
  induction Fs generalizing k with
  | nil => rfl
  | cons x Fs ih => simp [markFS, ih]

theorem markFS_end (Fs : List (List Nz)) (k : Int) : (markFS Fs k).2 = k + (szFS Fs : Nat) := by
  unfold szFS
  induction Fs generalizing k with
  | nil => simp [markFS]
  | cons f Fs ih =>
    simp only [markFS, ih, markF_end, List.map_cons, List.sum_cons]
    omega

def midFS (Fs : List (List Nz)) (k : Int) (i : Nat) : List (List Nz) := (markFS (Fs.take i) k).1 ++ Fs.drop i
theorem midFS_zero (Fs : List (List Nz)) (k : Int) : midFS Fs k 0 = Fs := by simp [midFS, markFS]
theorem midFS_all (Fs : List (List Nz)) (k : Int) : midFS Fs k Fs.length = (markFS Fs k).1 := by simp [midFS]
theorem midFS_len (Fs : List (List Nz)) (k : Int) (i : Nat) (h : i ≤ Fs.length) : (midFS Fs k i).length = Fs.length := by
  unfold midFS
  rw [List.length_append, markFS_len, List.length_take, List.length_drop]
  omega
theorem midFS_at (Fs : List (List Nz)) (k : Int) (i : Nat) (f : List Nz) (h : Fs[i]? = some f) : (midFS Fs k i)[i]? = some f := by
  have hl := get_lt h
  unfold midFS
  rw [List.getElem?_append_right (by rw [markFS_len, List.length_take]; omega), markFS_len, List.length_take, Nat.min_eq_left (by omega), Nat.sub_self, List.getElem?_drop, Nat.add_zero, h]
theorem takeFS_snoc (Fs : List (List Nz)) (i : Nat) (f : List Nz) (h : Fs[i]? = some f) : Fs.take (i + 1) = Fs.take i ++ [f] := by rw [List.take_add_one, h]; rfl
theorem midFS_set (Fs : List (List Nz)) (k : Int) (i : Nat) (f : List Nz) (h : Fs[i]? = some f) : (midFS Fs k i).set i (markF f (markFS (Fs.take i) k).2).1 = midFS Fs k (i + 1) := by
  have hl := get_lt h
  unfold midFS
  rw [List.set_append_right _ _ (by rw [markFS_len, List.length_take]; omega), markFS_len, List.length_take, Nat.min_eq_left (by omega), Nat.sub_self, takeFS_snoc Fs i f h, markFS_snoc, List.drop_eq_getElem_cons hl, List.set_cons_zero, List.append_assoc]
  rfl
theorem markFS_take (Fs : List (List Nz)) (k : Int) (i : Nat) (f : List Nz) (h : Fs[i]? = some f) : (markFS (Fs.take (i + 1)) k).2 = (markF f (markFS (Fs.take i) k).2).2 := by rw [takeFS_snoc Fs i f h, markFS_snoc]
theorem markFS_le (Fs : List (List Nz)) (k : Int) (i : Nat) : k ≤ (markFS (Fs.take i) k).2 ∧ (markFS (Fs.take i) k).2 ≤ (markFS Fs k).2 := by
  have h := sum_take_le (Fs.map (fun f => (f.map szN).sum)) i
  rw [markFS_end, markFS_end]
  unfold szFS
  rw [List.map_take]
  omega
theorem markFS_get : ∀ (Fs : List (List Nz)) (k : Int) (j : Nat) (f : List Nz), Fs[j]? = some f → (markFS Fs k).1[j]? = some (markF f (markFS (Fs.take j) k).2).1
  | [], k, j, nd, h => by simp at h
  | n0 :: Fs, k, 0, nd, h => by
    simp at h
    subst h
    simp [markFS]
  | n0 :: Fs, k, j + 1, nd, h => by
    rw [List.getElem?_cons_succ] at h
    have ih := markFS_get Fs (markF n0 k).2 j nd h
    simp only [markFS, List.getElem?_cons_succ, List.take_succ_cons]
    exact ih

/-- the blocks of the lists of numbers -/
def BlkFS (ps : List (Value × List (Value × Value))) (b : Nat) : Prop := ∃ (j : Nat) (p : Value × List (Value × Value)), ps[j]? = some p ∧ BlkF p.2 b
theorem BlkFS.all {v : Value} {ps : List (Value × List (Value × Value))} {b : Nat} (h : BlkFS ps b) : AllFS v ps b := by
  obtain ⟨j, p, h1, h2⟩ := h
  exact Or.inr ⟨j, p, h1, Or.inr h2⟩

set_option maxHeartbeats 1000000 in
theorem markFS_calls (v : Value) (ps : List (Value × List (Value × Value))) (Fs : List (List Nz)) (k : Int) (w : World) (base : Nat) (h : OwnFS w base v ps Fs) (h0 : 0 ≤ k) (h1 : (markFS Fs k).2 ≤ 1000000000) :
    Calls Try.prog 28 #[v, .int .i64 k] w fun e w' => e = .returned (.int .i64 (markFS Fs k).2) ∧ OwnFS w' base v ps (markFS Fs k).1 ∧ Only w w' (BlkFS ps) := by
  have H := Lib.hid h
  have hcap : Fs.length ≤ 9223372036854775807 := by obtain ⟨_, _, _, hc, _⟩ := h.formsZ; exact Nat.le_trans hc.1 hc.2
  obtain ⟨a, c, rfl⟩ := h.shape
  clear h
  go_enter Try.func28, Try.ntmps28
  go_wp2
  go_loopw [1, 5] (fun kk i wr => ∃ j : Nat, j ≤ Fs.length ∧ kk = .int .i64 (markFS (Fs.take j) k).2 ∧ i = .int .i64 (j : Int) ∧ Hid (OwnFS wr base (.slice a Fs.length c) ps (midFS Fs k j)) ∧ Hid (Only w wr (BlkFS ps))) (fun _ i _ => Fs.length - (intOf i).toNat)
  case atStart => exact ⟨0, Nat.zero_le _, by simp [markFS], rfl, Lib.hid (by rw [midFS_zero]; exact H.out), Lib.hid (Only.refl _ _)⟩
  case round =>
    obtain ⟨j, hj, rfl, rfl, hR, hO⟩ := hrel
    by_cases hjl : j < Fs.length
    · obtain ⟨f, hf⟩ := lt_get hjl
      have e1 := markFS_take Fs k j f hf
      have b2 := (markFS_le Fs k j).1
      have b3 := (markFS_le Fs k (j + 1)).2
      have hm := midFS_at Fs k j f hf
      have hst := midFS_set Fs k j f hf
      obtain ⟨g, c', p, e, hp, hc, ho, _⟩ := hR.out.form_at hm
      rw [midFS_len Fs k j (by omega)] at e
      injection e with q1 _ q3
      subst q1 q3
      generalize (markFS (Fs.take j) k).2 = K at *
      have C := Lib.hid (markN_calls p.1 p.2 f K _ base ho (by omega) (by omega))
      have HE := Lib.hid e1
      have HN : Hid (∀ w1, OwnF w1 base p.1 p.2 (markF f K).1 → Only wr w1 (BlkF p.2) → OwnFS w1 base (.slice (some ⟨g, 0, none⟩) Fs.length c) ps (midFS Fs k (j + 1)) ∧ Only w w1 (BlkFS ps)) := Lib.hid (fun w1 h2 h3 => by
        have h4 := hR.out.set hm hp h3 h2
        rw [hst] at h4
        exact ⟨h4, hO.out.trans h3 (fun b _ hb => ⟨j, p, hp, hb⟩)⟩)
      clear H hR hO ho e1 b2 b3 hm hst
      have b0 : (0 : Int) ≤ j := by omega
      have b1 : (j : Int) < Fs.length := by omega
      go_wp2_with fail
      refine C.out.mono ?_
      rintro e w1 ⟨rfl, h2, o2⟩
      obtain ⟨r1, r2⟩ := HN.out w1 h2 o2
      have R1 := Lib.hid r1
      have R2 := Lib.hid r2
      clear HN C h2 o2 r1 r2
      go_wp2_with fail
      go_round
      case rel => exact ⟨j + 1, by omega, by rw [HE.out], by go_num, R1, R2⟩
      case measure => first | (simp [intOf]; done) | (simp [intOf]; omega)
    · have hje : j = Fs.length := by omega
      subst hje
      have HF := Lib.hid (show OwnFS _ base (.slice a Fs.length c) ps (markFS Fs k).1 from by have := hR.out; rw [midFS_all] at this; exact this)
      rw [List.take_length]
      clear H hR
      go_wp2
      go_ret
      exact ⟨rfl, HF.out, hO.out⟩

end Go.Proofs.Ytiacgcpcgabdoaa
