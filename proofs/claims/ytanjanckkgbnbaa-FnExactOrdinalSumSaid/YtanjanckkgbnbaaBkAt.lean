/- Nodes put one by one into a book of the call's own, and the places where they are. -/
import Derived.Test.YtanjanckkgbnbaaFmRootN
import Derived.Test.YtanjanckkgbnbaaFmPartL
namespace Go.Proofs.Ytanjanckkgbnbaa
open Go.RowKit
set_option linter.unusedVariables false
set_option linter.unusedSimpArgs false

structure BkAt (base : Nat) (wr : World) (P : List Nd) (ga ca : Nat) (vn vb : Value) (vs : List (Value × Value)) : Prop where
  bk : Bk base wr base (addF [] P).1 (bornsOf (addF [] P).1) vn vb vs (fun g => g = ga)
  own : wr.ownsRow base 3 1 (.slice (some ⟨ga, 0, none⟩) P.length ca) P.length ((addF [] P).2.map iv)
  lt : base < ga
  nf : ¬ Foot base vn vb ga

theorem BkAt.size {base : Nat} {wr : World} {P : List Nd} {ga ca : Nat} {vn vb : Value} {vs : List (Value × Value)} (h : BkAt base wr P ga ca vn vb vs) : ga < wr.heap.size ∧ base < wr.heap.size := by
  have := (World.ownsRow.lt h.own ga rfl).2
  exact ⟨this, by have := h.lt; omega⟩
theorem BkAt.below {base : Nat} {wr w' : World} {P : List Nd} {ga ca : Nat} {vn vb : Value} {vs : List (Value × Value)} (h : BkAt base wr P ga ca vn vb vs) (hb : Below wr.heap.size wr w') : BkAt base w' P ga ca vn vb vs :=
  ⟨h.bk.below hb, own_only h.own (Only.of_below (F := fun _ => False) hb) (fun _ _ => id), h.lt, h.nf⟩

/-- the first one: nothing is there yet -/
theorem BkAt.start (w : World) : BkAt w.heap.size ((w.alloc (.cells #[.slice none 0 0, .slice none 0 0] 74)).alloc (.cells #[] 3)) [] (w.heap.size + 1) 0 (.slice none 0 0) (.slice none 0 0) [] := by
  have hz : (w.alloc (.cells #[.slice none 0 0, .slice none 0 0] 74)).heap.size = w.heap.size + 1 := by simp
  have hb : Below (w.alloc (.cells #[.slice none 0 0, .slice none 0 0] 74)).heap.size (w.alloc (.cells #[.slice none 0 0, .slice none 0 0] 74)) ((w.alloc (.cells #[.slice none 0 0, .slice none 0 0] 74)).alloc (.cells #[] 3)) := (Below.refl _ _).alloc (Nat.le_refl _) _
  refine ⟨?_, ?_, by omega, ?_⟩
  · exact ((bk_nil w).reX (Y := fun g => g = w.heap.size + 1) (fun g hg e => by rw [hz] at hg; omega)).below hb
  · have h := World.ownsRow_lit (base := w.heap.size) (e := 3) (size := 1) (w.alloc (.cells #[.slice none 0 0, .slice none 0 0] 74)) #[] 0 (by rw [hz]; omega) (by unfold maxLen; omega) rfl
    rw [hz] at h
    exact h
  · rintro (h | h | h)
    · omega
    · simp [Value.ownBlock] at h
    · simp [Value.ownBlock] at h

theorem at_len (P : List Nd) : (addF [] P).2.length = P.length := (addF_len [] P).1
theorem at_add (P : List Nd) (L R : List Nat) : addF [] (P ++ [(L, R)]) =
    (bookPut (addF [] P).1 (sortd (L.map (fun x => (addF [] P).2.getD x 0)), sortd (R.map (fun x => (addF [] P).2.getD x 0))),
      (addF [] P).2 ++ [seat (addF [] P).1 (sortd (L.map (fun x => (addF [] P).2.getD x 0)), sortd (R.map (fun x => (addF [] P).2.getD x 0)))]) := by
  rw [addF_snoc]
  rfl

/-- where the next one stands -/
def seatAt (P : List Nd) (L R : List Nat) : Nat := seat (addF [] P).1 (sortd (L.map (fun x => (addF [] P).2.getD x 0)), sortd (R.map (fun x => (addF [] P).2.getD x 0)))

theorem BkAt.ints {base : Nat} {wr : World} {P : List Nd} {ga ca : Nat} {vn vb : Value} {vs : List (Value × Value)} (h : BkAt base wr P ga ca vn vb vs) (hP : P.length ≤ 90000) : IntsZ wr ga (ga + 1) (.slice (some ⟨ga, 0, none⟩) P.length ca) (upL (addF [] P).2) := (own_intsA h.own (by omega)).2

/-- the places that some options are at -/
theorem BkAt.l3At_calls {base : Nat} {wr : World} {P : List Nd} {ga ca : Nat} {vn vb : Value} {vs : List (Value × Value)} (h : BkAt base wr P ga ca vn vb vs) (hP : P.length ≤ 90000) (W : World) (hW : Below wr.heap.size wr W) (v : Value) (L : List Nat) (lo hi : Nat) (hh : hi ≤ W.heap.size) (hv : IntsZ W lo hi v (upL L)) (hl : L.length ≤ 90000) (hx : ∀ x ∈ L, x < P.length) :
    Calls Try.prog 64 #[.slice (some ⟨ga, 0, none⟩) P.length ca, v] W fun e w' => ∃ b c, e = .returned (.slice (some ⟨b, 0, none⟩) L.length c) ∧ IntsZ w' W.heap.size w'.heap.size (.slice (some ⟨b, 0, none⟩) L.length c) (upL (L.map (fun x => (addF [] P).2.getD x 0))) ∧ Below W.heap.size W w' := by
  have hs := h.size
  refine (Go.Proofs.Ytanjanckkgbnbaa.l3At_calls (.slice (some ⟨ga, 0, none⟩) P.length ca) v (addF [] P).2 L W ga (ga + 1) lo hi (by have := hW.size; omega) hh ((h.ints hP).below hW (by omega)) hv (by omega) (fun x hx' => by rw [at_len]; exact hx x hx')).mono ?_
  rintro e w' ⟨b, c, h1, h2, _, _, h5⟩
  exact ⟨b, c, h1, h2, h5⟩

/-- a node is put -/
theorem BkAt.put_calls {base : Nat} {wr : World} {P : List Nd} {ga ca : Nat} {vn vb : Value} {vs : List (Value × Value)} (h : BkAt base wr P ga ca vn vb vs) (hu : Under P) (hP : P.length ≤ 90000) (W : World) (hW : Below wr.heap.size wr W) (vl vr : Value) (L R : List Nat) (l1 h1 l2 h2 : Nat) (hh1 : h1 ≤ W.heap.size) (hh2 : h2 ≤ W.heap.size)
    (hvl : IntsZ W l1 h1 vl (upL (L.map (fun x => (addF [] P).2.getD x 0)))) (hvr : IntsZ W l2 h2 vr (upL (R.map (fun x => (addF [] P).2.getD x 0)))) (hL : ∀ x ∈ L, x < P.length) (hR : ∀ x ∈ R, x < P.length) (hlL : L.length ≤ 90000) (hlR : R.length ≤ 90000) :
    Calls Try.prog 65 #[.pointer (some ⟨base, 0, none⟩), vl, vr] W fun e w' => e = .returned (.int .i64 ((seatAt P L R : Nat) : Int)) ∧ ∃ vn' vb' vs', Bk base w' base (addF [] (P ++ [(L, R)])).1 (bornsOf (addF [] (P ++ [(L, R)])).1) vn' vb' vs' (fun g => g = ga) ∧ Only W w' (Foot base vn vb) ∧ (∀ g, g < W.heap.size → Foot base vn' vb' g → Foot base vn vb g) := by
  have ha := addF_added [] book_nil P hu
  have hs := h.size
  have hlt : ∀ x, x < P.length → (addF [] P).2.getD x 0 < (addF [] P).1.length := fun x hx => by
    obtain ⟨n0, hn0⟩ := lt_get hx
    exact get_lt (ha.node x n0 hn0)
  have hlen := (addF_len [] P).2
  have hc := Go.Proofs.Ytanjanckkgbnbaa.put_calls base base (addF [] P).1 vn vb vs (fun g => g = ga) vl vr (L.map (fun x => (addF [] P).2.getD x 0)) (R.map (fun x => (addF [] P).2.getD x 0)) W l1 h1 l2 h2 hh1 hh2 (h.bk.below hW) (fun g e => by have := hW.size; omega) ha.book.struct.under hvl hvr
    (fun y hy => by obtain ⟨x, hx, rfl⟩ := List.mem_map.1 hy; exact hlt x (hL x hx)) (fun y hy => by obtain ⟨x, hx, rfl⟩ := List.mem_map.1 hy; exact hlt x (hR x hx)) (by simp at hlen; omega) (by simp; omega) (by simp; omega)
  rw [at_add]
  exact hc

/-- ... and its place told -/
theorem BkAt.next {base : Nat} {wr W w6 w7 : World} {P : List Nd} {ga ca : Nat} {vn vb vn' vb' v7 : Value} {vs vs' : List (Value × Value)} {L R : List Nat} (h : BkAt base wr P ga ca vn vb vs) (hW : Below wr.heap.size wr W)
    (hK6 : Bk base w6 base (addF [] (P ++ [(L, R)])).1 (bornsOf (addF [] (P ++ [(L, R)])).1) vn' vb' vs' (fun g => g = ga)) (ho6 : Only W w6 (Foot base vn vb)) (hf6 : ∀ g, g < W.heap.size → Foot base vn' vb' g → Foot base vn vb g)
    (hown7 : w7.ownsRow base 3 1 v7 (P.length + 1) ((addF [] P).2.map iv ++ [iv (seatAt P L R)])) (hgrow7 : (w6.alloc (.cells #[.int .i64 ((seatAt P L R : Nat) : Int)] 3)).grownBy w7 (Value.slice (some ⟨ga, 0, none⟩) P.length ca).ownBlock)
    (hat7 : v7.ownBlock = (Value.slice (some ⟨ga, 0, none⟩) P.length ca).ownBlock ∨ v7.ownBlock = some (w6.alloc (.cells #[.int .i64 ((seatAt P L R : Nat) : Int)] 3)).heap.size) :
    ∃ g7 c7, v7 = .slice (some ⟨g7, 0, none⟩) (P.length + 1) c7 ∧ Hid (BkAt base w7 (P ++ [(L, R)]) g7 c7 vn' vb' vs') ∧ Hid (Only wr w7 (fun g => Foot base vn vb g ∨ g = ga)) ∧ Hid (Below base wr w7) := by
  obtain ⟨g7, c7, rfl, _, hg7h⟩ := hown7.form (by omega)
  have hs := h.size
  have hga := h.lt
  have HAPP : Only (w6.alloc (.cells #[.int .i64 ((seatAt P L R : Nat) : Int)] 3)) w7 (fun g => g = ga) := Only.of_grown hgrow7 (fun g e => by injection e with e; exact e.symm)
  have HK7a := hK6.below ((Below.refl w6.heap.size w6).alloc (Nat.le_refl _) (.cells #[.int .i64 ((seatAt P L R : Nat) : Int)] 3))
  have hz6 : (w6.alloc (.cells #[.int .i64 ((seatAt P L R : Nat) : Int)] 3)).heap.size = w6.heap.size + 1 := by simp
  have hz5 := hW.size
  have hs6 := ho6.size
  have hgaF : ¬ Foot base vn' vb' ga := fun hF => h.nf (hf6 ga (by omega) hF)
  have hat : g7 = ga ∨ g7 = w6.heap.size + 1 := by
    rcases hat7 with e | e
    · left; injection e
    · right; rw [hz6] at e; injection e
  have HK7b := (HK7a.reX (Y := fun g => g = ga ∨ g = w6.heap.size + 1) (fun g hg e => by rw [hz6] at hg; omega)).only (HAPP.mono (fun i _ e => Or.inl e)) (fun g hF e => by
    rcases e with e | e
    · exact hgaF (e ▸ hF)
    · have := (HK7a.lt g hF).2; rw [hz6] at this; omega)
  have HK7 : Bk base w7 base (addF [] (P ++ [(L, R)])).1 (bornsOf (addF [] (P ++ [(L, R)])).1) vn' vb' vs' (fun g => g = g7) := HK7b.reX (fun g _ e => by subst e; exact hat)
  have HNF7 : ¬ Foot base vn' vb' g7 := fun hF => by
    rcases hat with e | e
    · exact hgaF (e ▸ hF)
    · have := (HK7a.lt g7 hF).2; rw [hz6] at this; omega
  have OT : Only wr w7 (fun g => Foot base vn vb g ∨ g = ga) :=
    (((Only.of_below (F := fun g => Foot base vn vb g ∨ g = ga) hW).trans ho6 (fun i _ h => Or.inl h)).trans (Only.of_below (F := fun g => Foot base vn vb g ∨ g = ga) ((Below.refl w6.heap.size w6).alloc (Nat.le_refl _) (.cells #[.int .i64 ((seatAt P L R : Nat) : Int)] 3))) (fun i _ h => h)).trans HAPP (fun i _ h => Or.inr h)
  refine ⟨g7, c7, rfl, Lib.hid ⟨HK7, ?_, by omega, HNF7⟩, Lib.hid OT, Lib.hid (OT.below (by omega) (fun g hg => by
    rcases hg with hg | hg
    · exact (h.bk.lt g hg).1
    · omega))⟩
  rw [at_add, List.map_append, List.length_append]
  exact hown7

end Go.Proofs.Ytanjanckkgbnbaa
