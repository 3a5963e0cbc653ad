/- A game's part is played as it is played in the game. -/
import Derived.Test.YtabfdaofikccmaaGpAll
import Derived.Test.YtabfdaofikccmaaFmPartL
import Derived.Test.YtabfdaofikccmaaFmGoodI
import Derived.Test.YtabfdaofikccmaaInOf
import Derived.Test.YtabfdaofikccmaaOrAll
import Derived.Test.YtabfdaofikccmaaOpAll
import Derived.Test.YtabfdaofikccmaaDrAll
namespace Go.Proofs.Ytabfdaofikccmaa
section
set_option linter.unusedVariables false
set_option linter.unusedSimpArgs false

theorem partN_small (f : List Nd) (need : Nat → Bool) (top : Nat) (h : ∀ nd ∈ f, nd.1.length ≤ 24 ∧ nd.2.length ≤ 24) : ∀ k, ∀ nd ∈ (partN f need top k).2, nd.1.length ≤ 24 ∧ nd.2.length ≤ 24
  | 0, nd, hm => by simp [partN] at hm
  | k + 1, nd, hm => by
    have ih := partN_small f need top h k
    rw [partN] at hm
    cases hn : need k with
    | false =>
      simp only [hn, Bool.false_eq_true, if_false] at hm
      exact ih nd hm
    | true =>
      simp only [hn, if_true] at hm
      rcases List.mem_append.1 hm with hm | hm
      · exact ih nd hm
      · rw [List.mem_singleton] at hm
        subst hm
        refine movd_small _ _ ?_
        rw [List.getD_eq_getElem?_getD]
        cases hg : f[k]? with
        | none => simp
        | some n0 => exact h n0 (List.mem_of_getElem? hg)

theorem part_can {f : List Nd} (hf : Struct f) (hr : Rising f (bOf f)) {x : Nat} (hx : x < f.length) : ∃ pl, Canon f (bOf f) (Reached f x) (partI f x) pl := by
  have hu := hf.under
  have hre := fun i => reachF_is f hu x hx i
  have hs : Shut f (fun k => (reachF f x).getD k false = true) := fun k nd hk h y hy => (hre y).2 (.opt ((hre k).1 h) hk hy)
  have h := part_canon f hf hr (fun k => (reachF f x).getD k false) hs x hx (fun k h => ((hre k).1 h).le hu)
  exact ⟨_, canon_iff h (fun k _ => hre k)⟩

/-- the part answers the game from there on -/
theorem part_sim {f out : List Nd} {x : Nat} {b pl : Nat → Nat} (hu : Under f) (h : Canon f b (Reached f x) out pl) : IsSim f out (fun i j => (i < f.length ∧ Reached f x i) ∧ j = pl i) := by
  rintro i j ⟨⟨hi, hn⟩, rfl⟩ l
  obtain ⟨nd, hnd⟩ := lt_get hi
  have ho := h.node i nd hnd hn
  have hm : ∀ r, r ∈ (if l then nd.1 else nd.2) → r < f.length ∧ Reached f x r := fun r hr => by
    have h2 : r ∈ nd.1 ∨ r ∈ nd.2 := by
      cases l
      · exact Or.inr hr
      · exact Or.inl hr
    have := hu i nd hnd r h2
    exact ⟨by omega, .opt hn hnd h2⟩
  refine ⟨fun r hr => ?_, fun s hs => ?_⟩
  · rw [optsD_mem hnd] at hr
    exact ⟨pl r, (optsD_mov ho l _).2 ⟨r, hr, rfl⟩, hm r hr, rfl⟩
  · obtain ⟨r, hr, e⟩ := (optsD_mov ho l s).1 hs
    exact ⟨r, by rw [optsD_mem hnd]; exact hr, hm r hr, e.symm⟩

theorem part_solo {f : List Nd} (hf : Struct f) (hr : Rising f (bOf f)) {x : Nat} (hx : x < f.length) (l : Bool) : 0 < (partI f x).length ∧ soloF (partI f x) ((partI f x).length - 1) l = soloF f x l := by
  obtain ⟨pl, h⟩ := part_can hf hr hx
  have hu := hf.under
  have hb := births_bOf f hu
  have hs : Shut f (Reached f x) := fun k nd hk h y hy => .opt h hk hy
  have ho := (Canon.struct hb hs hu h).under
  have hl := canon_last hu hx h
  refine ⟨by omega, ?_⟩
  rw [show (partI f x).length - 1 = pl x by omega]
  exact (solo_sim hu ho (part_sim hu h) ⟨⟨hx, .root⟩, rfl⟩ l).symm

theorem part_ord {f : List Nd} (hf : Struct f) (hr : Rising f (bOf f)) {x : Nat} (hx : x < f.length) : Struct (partI f x) ∧ RisingBy (partI f x) (bOf (partI f x)) ∧ Used (partI f x) := by
  obtain ⟨pl, h⟩ := part_can hf hr hx
  have hu := hf.under
  have hb := births_bOf f hu
  have hs : Shut f (Reached f x) := fun k nd hk h y hy => .opt h hk hy
  have hst := Canon.struct hb hs hu h
  have hri := Canon.rising hb hs hu h (births_bOf _ hst.under)
  exact ⟨hst, fun k a b h1 h2 => hri k (k + 1) a b h1 h2 (by omega), canon_used hu hx h⟩

theorem part_len (f : List Nd) (x : Nat) : (partI f x).length ≤ x + 1 := partN_llen _ _ _ _

/-- a part of a good form is a good form, played as in the form -/
theorem good_part {f : List Nz} (h : goodB f = true) {x : Nat} (hx : x < f.length) : goodB ((partI (f.map downN) x).map upN) = true ∧ ∀ l, soloF (((partI (f.map downN) x).map upN).map downN) (((partI (f.map downN) x).map upN).length - 1) l = soloF (f.map downN) x l := by
  obtain ⟨h1, h2, h3, h4⟩ := (goodB_iff f).1 h
  have hs := h2.up.2
  have hx' : x < (f.map downN).length := by simpa using hx
  obtain ⟨p1, p2, p3⟩ := part_ord hs h3.rising hx'
  have hl := fun l => part_solo hs h3.rising hx' l
  have hsm : ∀ nd ∈ f.map downN, nd.1.length ≤ 24 ∧ nd.2.length ≤ 24 := fun nd hnd => by
    obtain ⟨n0, hn0, rfl⟩ := List.mem_map.1 hnd
    have := h1.2.2 n0 hn0
    simpa [downN, downL] using this
  have hm := part_len (f.map downN) x
  refine ⟨(goodB_iff _).2 ⟨⟨by simpa using (hl true).1, by rw [List.length_map]; have := h1.2.1; omega, fun nd hnd => ?_⟩, structZ_up p1, by rw [down_up]; exact p2, by rw [down_up]; exact p3⟩, fun l => ?_⟩
  · obtain ⟨n0, hn0, rfl⟩ := List.mem_map.1 hnd
    have := partN_small (f.map downN) (fun k => (reachF (f.map downN) x).getD k false) x hsm (x + 1) n0 hn0
    simpa [upN, upL] using this
  · rw [down_up, List.length_map]
    exact (hl l).2
end

section
set_option linter.unusedVariables false
set_option linter.unusedSimpArgs false

/-- the options' places -/
def placesV (f : List Nz) (l : Bool) : List Nat := if l then (lastN f).1 else (lastN f).2

theorem opts_places (f : List Nz) (l : Bool) : optsD (f.map downN) (f.length - 1) l = placesV f l := rfl

theorem optV_places {f : List Nz} (h : goodB f = true) (l : Bool) : optV f l = (placesV f l).map (fun x => (partI (f.map downN) x).map upN) := by
  unfold optV partsF placesV
  rw [h]
  rfl

theorem places_lt {f : List Nz} (h : goodB f = true) (l : Bool) (x : Nat) (hx : x ∈ placesV f l) : x < f.length := by
  refine lastN_lt h x ?_
  unfold placesV at hx
  cases l
  · exact Or.inr hx
  · exact Or.inl hx

theorem moves_mem {f : List Nz} (h : goodB f = true) (l : Bool) {i x : Nat} (hi : (placesV f l)[i]? = some x) : decide ((i : Int) ∈ movesV f l) = !soloF (f.map downN) x (!l) := by
  have hx : (placesV f l).getD i 0 = x := by rw [List.getD_eq_getElem?_getD, hi]; rfl
  rw [movesV_good h, opts_places]
  unfold movesK
  by_cases hs : soloF (f.map downN) x (!l) = true
  · rw [hs]
    refine decide_eq_false fun hm => ?_
    obtain ⟨j, hj, e⟩ := List.mem_map.1 hm
    have e2 : j = i := by omega
    subst e2
    have := (List.mem_filter.1 hj).2
    rw [hx, hs] at this
    cases this
  · have hs2 : soloF (f.map downN) x (!l) = false := by simpa using hs
    rw [hs2]
    refine decide_eq_true (List.mem_map.2 ⟨i, List.mem_filter.2 ⟨List.mem_range.2 (get_lt hi), ?_⟩, rfl⟩)
    rw [hx, hs2]
    rfl

theorem wn_opt {f : List Nz} (h : goodB f = true) (l : Bool) {i : Nat} {g : List Nz} (hg : (optV f l)[i]? = some g) : goodB g = true ∧ decide ((i : Int) ∈ movesV f l) = !soloF (g.map downN) (g.length - 1) (!l) := by
  rw [optV_places h, List.getElem?_map] at hg
  cases hx : (placesV f l)[i]? with
  | none => rw [hx] at hg; cases hg
  | some x =>
    rw [hx] at hg
    injection hg with hg
    have hp := good_part h (places_lt h l x (List.mem_of_getElem? hx))
    subst hg
    refine ⟨hp.1, ?_⟩
    rw [moves_mem h l hx, hp.2]

theorem wn_wins {f : List Nz} (h : goodB f = true) (l : Bool) : soloF (f.map downN) (f.length - 1) l = decide (0 < (movesV f l).length) := by
  have hu : Under (f.map downN) := ((goodB_iff f).1 h).2.1.up.2.under
  rw [soloF_eq _ hu, opts_places]
  cases hm : movesV f l with
  | nil =>
    rw [Bool.eq_iff_iff]
    simp only [List.any_eq_true, List.length_nil, Nat.lt_irrefl, decide_false, Bool.false_eq_true, iff_false]
    rintro ⟨o, ho, h2⟩
    obtain ⟨i, hi⟩ := List.getElem?_of_mem ho
    have := moves_mem h l hi
    rw [hm] at this
    simp at this
    rw [this] at h2
    cases h2
  | cons a ms =>
    rw [Bool.eq_iff_iff]
    simp only [List.any_eq_true, List.length_cons, Nat.zero_lt_succ, decide_true, iff_true]
    have ha : a ∈ movesV f l := by rw [hm]; exact List.mem_cons_self ..
    have ha2 := ha
    rw [movesV_good h, opts_places] at ha2
    unfold movesK at ha2
    obtain ⟨i, hi, rfl⟩ := List.mem_map.1 ha2
    have hf := List.mem_filter.1 hi
    have hil := List.mem_range.1 hf.1
    obtain ⟨x, hx⟩ := lt_get hil
    refine ⟨x, List.mem_of_getElem? hx, ?_⟩
    have h3 := hf.2
    rw [List.getD_eq_getElem?_getD, hx] at h3
    exact h3

/-- the law's own search for a number -/
theorem find_next (ms : List Int) (i x : Int) (m : Nat) (hx : ms[m]? = some x) : (decide (i ∈ ms.take m) || (x == i)) = decide (i ∈ ms.take (m + 1)) := by
  rw [List.take_add_one, hx]
  by_cases h1 : i ∈ ms.take m
  · rw [decide_eq_true h1, decide_eq_true (List.mem_append.2 (Or.inl h1))]; rfl
  · rw [decide_eq_false h1, Bool.false_or]
    by_cases h2 : x = i
    · subst h2
      rw [decide_eq_true (List.mem_append.2 (Or.inr (by simp)))]
      simp
    · rw [decide_eq_false]
      · simp [h2]
      · intro h3
        rcases List.mem_append.1 h3 with h3 | h3
        · exact h1 h3
        · simp at h3
          exact h2 h3.symm
end

section
open Go.RowKit
set_option linter.unusedVariables false
set_option linter.unusedSimpArgs false

/-- what a draw of a game and of who moves hands back -/
def DrawWho (w : World) (e : Ending) (w' : World) : Prop := ∃ (a : Option Addr) (c : Nat) (f : List Nz) (l : Bool), e = .returned (.tuple #[.agg #[.slice a f.length c], .bool l]) ∧ NodesZ w' w.heap.size w'.heap.size (.slice a f.length c) f ∧ Below w.heap.size w w'

set_option maxRecDepth 100000 in
set_option maxHeartbeats 4000000 in
theorem drawWins_calls (ao : Option Addr) (n cc : Nat) (w : World) (hc : CodeIn w (.slice ao n cc) n) (hn : n ≤ 1000000) :
    Calls Try.prog 38 #[.slice ao n cc] w (DrawWho w) := by
  have b0 : Below w.heap.size w (w.alloc (.cells #[.slice none 0 0] 28)) := (Below.refl _ _).alloc (Nat.le_refl _) _
  have z0 : (w.alloc (.cells #[.slice none 0 0] 28)).heap.size = w.heap.size + 1 := by simp
  have x0 : BoxAt (w.alloc (.cells #[.slice none 0 0] 28)) w.heap.size (.slice none 0 0) := ⟨by go_simp, by go_simp⟩
  have hc0 := hc.below b0
  have B0 := Lib.hid b0
  have X0 := Lib.hid x0
  clear hc b0 x0
  go_enter Try.func38, Try.ntmps38
  go_upto_region 1 with fail
  generalize (w.alloc (.cells #[.slice none 0 0] 28)) = w0 at z0 hc0 B0 X0 ⊢
  have hbq : Below w0.heap.size w0 (w0.alloc (.cells #[.slice ao n cc, .int .i64 0, .int .u64 0] 52)) := (Below.refl _ _).alloc (Nat.le_refl _) _
  have hzq : (w0.alloc (.cells #[.slice ao n cc, .int .i64 0, .int .u64 0] 52)).heap.size = w0.heap.size + 1 := by simp
  have CA := Lib.hid fun (W : World) (N : Nat) (hN : N ≤ 1000) (h : Cur w0 W (w.heap.size + 1) (.slice ao n cc) N) => any_draw w0 W (w.heap.size + 1) n N (.slice ao n cc) hc0 hn h 4 (by omega) (by omega)
  have CO := Lib.hid fun (W : World) (N : Nat) (hN : N ≤ 1000) (h : Cur w0 W (w.heap.size + 1) (.slice ao n cc) N) => one_calls w0 W (w.heap.size + 1) n N 2 (.slice ao n cc) hc0 hn h (by omega) (by omega) (by omega)
  have HC1 : Hid (Cur w0 (w0.alloc (.cells #[.slice ao n cc, .int .i64 0, .int .u64 0] 52)) (w.heap.size + 1) (.slice ao n cc) 0) := Lib.hid (by rw [← z0]; exact cur_new _ _)
  have X1 := Lib.hid (X0.out.below hbq)
  have B1 := Lib.hid (B0.out.trans (hbq.mono (by omega)))
  clear hc0 hbq B0 X0
  go_upto_region 2 with fail
  generalize (w0.alloc (.cells #[.slice ao n cc, .int .i64 0, .int .u64 0] 52)) = w1 at hzq HC1 X1 B1 ⊢
  go_wp2_with fail
  refine (CA.out _ 0 (by omega) HC1.out).mono ?_
  rintro e w2 ⟨a, c, f, rfl, hz, hl, hC2, ho⟩
  have x2 := X1.out.only ho (by omega)
  have b2 := B1.out.trans (ho.below (base := w.heap.size) (by omega) (fun g e => by omega))
  have s1 := ho.size
  rw [hzq] at s1 hz
  have hal : Below w2.heap.size w2 (w2.alloc (.cells #[.slice a f.length c] 28)) := (Below.refl _ _).alloc (Nat.le_refl _) _
  have k5 : (w2.alloc (.cells #[.slice a f.length c] 28)).cell? ⟨w2.heap.size, 0, none⟩ = some (.slice a f.length c) := by go_simp
  have hz2 := hz.below hal (Nat.le_refl _)
  have hB5 : w2.heap.size < (w2.alloc (.cells #[.slice a f.length c] 28)).heap.size := by simp
  have X2 := Lib.hid (x2.below hal)
  have B2 := Lib.hid (b2.trans (hal.mono (by omega)))
  have HC2 := Lib.hid (hC2.below hal)
  have HN := Lib.hid hz2
  clear hz hC2 ho x2 b2 hal hz2 hzq B1 X1 CA HC1
  go_upto_region 3 with fail
  generalize (w2.alloc (.cells #[.slice a f.length c] 28)) = w3 at k5 hB5 X2 B2 HC2 HN ⊢
  generalize w2.heap.size = B5 at k5 hB5 s1 HN ⊢
  have hbd : Below w3.heap.size w3 w3.drew := below_drewN (Below.refl _ _) 1
  have HSW := Lib.hid fun (W : World) (h : Only w3 W (fun b => b = w.heap.size + 1 ∨ b = w.heap.size)) => show W.cell? ⟨B5, 0, none⟩ = some (.slice a f.length c) from (h.cell (by omega) (by omega)).trans k5
  have hS0 := HSW.out _ (Only.of_below hbd)
  have cd := HC2.out.below hbd
  have hlw := B2.out.size
  go_wp2_with fail
  refine wp_region_held_drew (S := (fun W : World => W.cell? ⟨B5, 0, none⟩ = some (.slice a f.length c))) (by kernel_rfl) hS0 (fun hHeld => ?_)
  refine wpAnyH_take (i := 0) (v := ?_) rfl (by kernel_rfl) (by kernel_rfl) (by kernel_rfl) (fun _ _ _ h => h) (Or.inl ⟨by rfl, ?_⟩) hHeld ?_
  rotate_left
  · intro W hW
    have z1 := hW
    first | (go_simp; done) | (go_simp; with_reducible rfl)
  try simp only [List.getElem_toArray, List.getElem_cons_succ, List.getElem_cons_zero, Act.put, List.setIfInBounds_toArray, List.set_cons_zero, List.set_cons_succ]
  refine wpAnyH_take (i := 1) (v := ?_) rfl (by kernel_rfl) (by kernel_rfl) (by kernel_rfl) (fun _ _ _ h => h) (Or.inl ⟨by rfl, ?_⟩) hHeld ?_
  rotate_left
  · intro W hW
    have z1 := hW
    first | (go_simp; done) | (go_simp; with_reducible rfl)
  try simp only [List.getElem_toArray, List.getElem_cons_succ, List.getElem_cons_zero, Act.put, List.setIfInBounds_toArray, List.set_cons_zero, List.set_cons_succ]
  refine wpAnyH_ready (rs := [2]) (by kernel_rfl) (by simp) ?_
  refine AllReadyH.cons rfl (fun K hK => ?_) AllReadyH.nil
  go_simp
  go_at_call 29
  refine (CO.out _ _ (by omega) cd).mono ?_
  rintro e wb ⟨⟨yes, rfl⟩, hCb, hgb⟩
  have ob := only_cur hgb
  have hwb : Only w3 wb (fun b => b = w.heap.size + 1 ∨ b = w.heap.size) := (Only.of_below hbd).trans ob (fun _ _ h => Or.inl h)
  have sb := hwb.size
  obtain ⟨y1, y2⟩ := (X2.out.below hbd).only ob (by omega)
  go_wp2_with fail
  refine hK.out _ _ (HSW.out _ hwb) (fun hH2 => ?_)
  clear hK K
  try simp only [List.getElem_toArray, List.getElem_cons_succ, List.getElem_cons_zero, Act.put, List.setIfInBounds_toArray, List.set_cons_zero, List.set_cons_succ]
  refine wpAnyH_ready (rs := [3]) (by kernel_rfl) (by simp) ?_
  refine AllReadyH.cons rfl (fun K hK => ?_) AllReadyH.nil
  go_simp
  have hset : Only wb (wb.setCell ⟨w.heap.size, 0, none⟩ (.slice a f.length c)) (fun b => b = w.heap.size) := Only.of_set (F := fun b => b = w.heap.size) _ rfl
  have hwc : Only w3 (wb.setCell ⟨w.heap.size, 0, none⟩ (.slice a f.length c)) (fun b => b = w.heap.size + 1 ∨ b = w.heap.size) := hwb.trans hset (fun _ _ h => Or.inr h)
  refine hK.out _ _ (HSW.out _ hwc) (fun hH3 => ?_)
  clear hK K
  try simp only [List.getElem_toArray, List.getElem_cons_succ, List.getElem_cons_zero, Act.put, List.setIfInBounds_toArray, List.set_cons_zero, List.set_cons_succ]
  refine wpAnyH_take (i := 4) (v := ?_) rfl (by kernel_rfl) (by kernel_rfl) (by kernel_rfl) (fun _ _ _ h => h) (Or.inl ⟨by rfl, ?_⟩) hH3 ?_
  rotate_left
  · intro W hW
    have z1 := hW
    first | (go_simp; done) | (go_simp; with_reducible rfl)
  try simp only [List.getElem_toArray, List.getElem_cons_succ, List.getElem_cons_zero, Act.put, List.setIfInBounds_toArray, List.set_cons_zero, List.set_cons_succ]
  refine wpAnyH_done (by kernel_rfl) ?_ _
  have sc := hwc.size
  have hcr := World.cell?_setCell_same wb ⟨w.heap.size, 0, none⟩ (.slice a f.length c) y1
  have HZ : Hid (NodesZ (wb.setCell ⟨w.heap.size, 0, none⟩ (.slice a f.length c)) w.heap.size (wb.setCell ⟨w.heap.size, 0, none⟩ (.slice a f.length c)).heap.size (.slice a f.length c) f) := Lib.hid ((HN.out.keep (fun b o h1 h2 => hwc.cell (by omega) (by omega))).wide (by omega) (by omega))
  have HBE : Hid (Below w.heap.size w (wb.setCell ⟨w.heap.size, 0, none⟩ (.slice a f.length c))) := Lib.hid (B2.out.trans (hwc.below (by omega) (fun g e => by omega)))
  clear hset hwb hwc ob hCb hgb CO HSW hS0 X2 B2 HN HC2 cd
  go_wp2_with fail
  exact bodyPost_ret (v := .tuple #[.agg #[.slice a f.length c], .bool yes]) (by simp [results, Try.results38, go_sem, hcr]) rfl ⟨a, c, f, yes, rfl, HZ.out, HBE.out⟩

set_option maxHeartbeats 4000000 in
theorem drawWinning_calls (ao : Option Addr) (n cc : Nat) (w : World) (hc : CodeIn w (.slice ao n cc) n) (hn : n ≤ 1000000) :
    Calls Try.prog 13 #[.slice ao n cc] w (DrawWho w) := by
  have b0 : Below w.heap.size w (w.alloc (.cells #[.slice none 0 0] 28)) := (Below.refl _ _).alloc (Nat.le_refl _) _
  have z0 : (w.alloc (.cells #[.slice none 0 0] 28)).heap.size = w.heap.size + 1 := by simp
  have x0 : BoxAt (w.alloc (.cells #[.slice none 0 0] 28)) w.heap.size (.slice none 0 0) := ⟨by go_simp, by go_simp⟩
  have C := Lib.hid (drawWins_calls ao n cc _ (hc.below b0) hn)
  have B0 := Lib.hid b0
  have X0 := Lib.hid x0
  clear hc b0 x0 hn
  go_enter Try.func13, Try.ntmps13
  go_upto_region 1 with fail
  generalize (w.alloc (.cells #[.slice none 0 0] 28)) = w0 at z0 B0 X0 C ⊢
  go_wp2_with fail
  refine C.out.mono ?_
  rintro e wb ⟨a, c, f, yes, rfl, hz, hb⟩
  obtain ⟨y1, y2⟩ := X0.out.below hb
  have sb := hb.size
  have hset : Only wb (wb.setCell ⟨w.heap.size, 0, none⟩ (.slice a f.length c)) (fun b => b = w.heap.size) := Only.of_set (F := fun b => b = w.heap.size) _ rfl
  have sc := hset.size
  have hcr := World.cell?_setCell_same wb ⟨w.heap.size, 0, none⟩ (.slice a f.length c) y1
  have HZ : Hid (NodesZ (wb.setCell ⟨w.heap.size, 0, none⟩ (.slice a f.length c)) w.heap.size (wb.setCell ⟨w.heap.size, 0, none⟩ (.slice a f.length c)).heap.size (.slice a f.length c) f) := Lib.hid ((hz.keep (fun b o h1 h2 => hset.cell h2 (by omega))).wide (by omega) (by omega))
  have HBE : Hid (Below w.heap.size w (wb.setCell ⟨w.heap.size, 0, none⟩ (.slice a f.length c))) := Lib.hid ((B0.out.trans (hb.mono (by omega))).setCell (Nat.le_refl _) _)
  clear hset hz hb C X0 B0
  go_wp2_with fail
  exact bodyPost_ret (v := .tuple #[.agg #[.slice a f.length c], .bool yes]) (by simp [results, Try.results13, go_sem, hcr]) rfl ⟨a, c, f, yes, rfl, HZ.out, HBE.out⟩
end

end Go.Proofs.Ytabfdaofikccmaa
