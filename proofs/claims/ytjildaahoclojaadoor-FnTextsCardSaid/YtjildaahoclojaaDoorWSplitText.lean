/- The walk of laws.FnExactSplitText: both functions answer the same parts, in memory of their own. -/
import Derived.Test.YtjildaahoclojaaDoorCutL
import Derived.Test.YtjildaahoclojaaDoorSplitS
import Derived.Test.YtjildaahoclojaaDoorStrs
import Derived.Test.YtjildaahoclojaaDoorOwnAt
import Derived.Test.YtjildaahoclojaaDoorShelf
import Derived.Lib.Hide
namespace Go.Proofs.YtjildaahoclojaaDoor
open Go.RowKit

/-- what both functions answer: the parts, or nothing -/
def splitR (s t : ByteArray) : List ByteArray × Bool :=
  if h : t.size = 1 ∧ s.size ≤ 4000 then (spAll s t[0], true) else ([], false)

/-- an answer: strings in a block of the call's own, and a bool -/
def AnsStrs (w : World) (l : List ByteArray) (ok : Bool) (e : Ending) (w' : World) : Prop :=
  ∃ g c, e = .returned (.tuple #[.slice (some ⟨g, 0, none⟩) l.length c, .bool ok]) ∧ OwnsStrs w' w.heap.size (.slice (some ⟨g, 0, none⟩) l.length c) l ∧ Below w.heap.size w w'

theorem ansNone (w : World) : AnsStrs w [] false (.returned (.tuple #[.slice (some ⟨w.heap.size, 0, none⟩) 0 0, .bool false])) (w.alloc (.cells #[] 9)) :=
  ⟨w.heap.size, 0, rfl, World.ownsRow_lit w #[] 0 (Nat.le_refl _) (by unfold maxLen; omega) rfl, (Below.refl _ _).alloc (Nat.le_refl _) _⟩

set_option maxHeartbeats 400000 in
theorem splitS_calls (s t : ByteArray) (w : World) (hs : s.size ≤ 1048576) (ht : t.size ≤ 1048576) :
    Calls Tryd.prog 31 #[.string s, .string t] w fun e w' => AnsStrs w (splitR s t).1 (splitR s t).2 e w' := by
  by_cases h1 : t.size = 1
  · by_cases h2 : s.size ≤ 4000
    · obtain ⟨x, hx⟩ : ∃ x : UInt8, t = ⟨#[x]⟩ := by
        obtain ⟨⟨l⟩⟩ := t
        match l, h1 with
        | [x], _ => exact ⟨x, rfl⟩
      subst hx
      have hr : splitR s ⟨#[x]⟩ = (spAll s x, true) := by
        unfold splitR
        rw [dif_pos ⟨rfl, h2⟩]
        rfl
      rw [hr]
      have HC := Lib.hid (l1Split_calls s x w hs)
      clear hr h1
      go_enter Tryd.func31, Tryd.ntmps31
      go_wp2_with fail
      refine HC.out.mono ?_
      rintro e w1 ⟨v, rfl, hown, hsh, hb⟩
      obtain ⟨g, c, rfl⟩ := ownsStrs_shape hown (by simp [spAll])
      have HO := Lib.hid hown
      have HB := Lib.hid hb
      clear hown hb hsh
      go_wp2_with fail
      go_ret2
      exact ⟨g, c, rfl, HO.out, HB.out⟩
    · have hr : splitR s t = ([], false) := by
        unfold splitR
        rw [dif_neg (by omega)]
      rw [hr]
      have ht1 : ((t.size : Int) == 1) = true := by rw [h1]; rfl
      have ht2 : ((t.size : Int) != 1) = false := by rw [h1]; rfl
      clear hr h1 ht
      go_enter Tryd.func31, Tryd.ntmps31
      go_wp2_with fail
      go_ret2
      exact ansNone w
  · have hr : splitR s t = ([], false) := by
      unfold splitR
      rw [dif_neg (by omega)]
    rw [hr]
    have ht2 : ((t.size : Int) != 1) = true := by rw [bne_iff_ne]; omega
    have ht1 : ((t.size : Int) == 1) = false := by rw [beq_eq_false_iff_ne]; omega
    clear hr h1
    go_enter Tryd.func31, Tryd.ntmps31
    go_wp2_with fail
    go_ret2
    exact ansNone w

/-- strings.Split at one byte -/
theorem split_calls (s : ByteArray) (x : UInt8) (m : Int) (w : World) (hs : s.size ≤ 4000) (hm : w.cell? ⟨2, 0, none⟩ = some (.int .i64 m)) :
    Calls Tryd.prog 51 #[.string s, .string ⟨#[x]⟩] w fun e w' => ∃ g c, e = .returned (.slice (some ⟨g, 0, none⟩) (spAll s x).length c) ∧ OwnsStrs w' w.heap.size (.slice (some ⟨g, 0, none⟩) (spAll s x).length c) (spAll s x) ∧ Below w.heap.size w w' := by
  obtain ⟨h1, h2⟩ := splitB_sp s x
  refine (Tryd.strings_Split s ⟨#[x]⟩ m w (by omega) hm (Nat.le_refl 1)).mono ?_
  rintro e w' ⟨he, hw⟩
  rw [h1] at hw
  rw [← h2] at he
  have hl : (spAll s x).length ≤ 4001 := by
    have := (spSt_le s x s.size).2
    simp [spAll]
    omega
  refine ⟨w.heap.size, _, he, ?_, ?_⟩
  · rw [hw]
    have := World.ownsRow_lit (e := 9) (size := 1) w ((spAll s x).map Value.string).toArray (spAll s x).length (Nat.le_refl _) (by unfold maxLen; omega) (by simp)
    exact this
  · rw [hw]
    exact (Below.refl _ _).alloc (Nat.le_refl _) _

set_option maxHeartbeats 400000 in
theorem splitI_calls (s t : ByteArray) (m : Int) (w : World) (hs : s.size ≤ 1048576) (ht : t.size ≤ 1048576) (hm : w.cell? ⟨2, 0, none⟩ = some (.int .i64 m)) :
    Calls Tryd.prog 24 #[.string s, .string t] w fun e w' => AnsStrs w (splitR s t).1 (splitR s t).2 e w' := by
  by_cases h2 : s.size ≤ 4000
  · by_cases h1 : t.size = 1
    · obtain ⟨x, hx⟩ : ∃ x : UInt8, t = ⟨#[x]⟩ := by
        obtain ⟨⟨l⟩⟩ := t
        match l, h1 with
        | [x], _ => exact ⟨x, rfl⟩
      subst hx
      have hr : splitR s ⟨#[x]⟩ = (spAll s x, true) := by
        unfold splitR
        rw [dif_pos ⟨rfl, h2⟩]
        rfl
      rw [hr]
      have HC := Lib.hid (split_calls s x m w h2 hm)
      clear hr h1 hm
      go_enter Tryd.func24, Tryd.ntmps24
      go_wp2_with fail
      refine HC.out.mono ?_
      rintro e w1 ⟨g, c, rfl, hown, hb⟩
      have HO := Lib.hid hown
      have HB := Lib.hid hb
      clear hown hb
      go_wp2_with fail
      go_ret2
      exact ⟨g, c, rfl, HO.out, HB.out⟩
    · have hr : splitR s t = ([], false) := by
        unfold splitR
        rw [dif_neg (by omega)]
      rw [hr]
      have ht2 : ((t.size : Int) != 1) = true := by rw [bne_iff_ne]; omega
      have ht1 : ((t.size : Int) == 1) = false := by rw [beq_eq_false_iff_ne]; omega
      clear hr h1 hm
      go_enter Tryd.func24, Tryd.ntmps24
      go_wp2_with fail
      go_ret2
      exact ansNone w
  · have hr : splitR s t = ([], false) := by
      unfold splitR
      rw [dif_neg (by omega)]
    rw [hr]
    clear hr hm
    go_enter Tryd.func24, Tryd.ntmps24
    go_wp2_with fail
    go_ret2
    exact ansNone w

theorem OwnsStrs.at {w : World} {base g c n : Nat} {l : List ByteArray} (h : OwnsStrs w base (.slice (some ⟨g, 0, none⟩) n c) l) (hn : n = l.length) : StrsAt w g l := by
  subst hn
  intro j x hx
  have hj : j < l.length := by
    rcases Nat.lt_or_ge j l.length with h1 | h1
    · exact h1
    · rw [List.getElem?_eq_none h1] at hx; cases hx
  rw [World.ownsRow.cellAt h j (by omega), List.getElem?_map, hx]
  rfl

theorem OwnsStrs.ge {w : World} {base g c n : Nat} {l : List ByteArray} (h : OwnsStrs w base (.slice (some ⟨g, 0, none⟩) n c) l) : base ≤ g ∧ g < w.heap.size :=
  World.ownsRow.lt h g rfl

theorem StrsAt.grown {w w' : World} {g : Nat} {l : List ByteArray} {row : Option Nat} (h : StrsAt w g l) (hg : w.grownBy w' row) (hne : some g ≠ row) : StrsAt w' g l :=
  fun j x hx => hg.cell (h j x hx) hne

theorem StrsAt.drewN {w : World} {g : Nat} {l : List ByteArray} (h : StrsAt w g l) (n : Nat) : StrsAt (w.drewN n) g l := h

theorem marks_own {w : World} {base g c n k0 : Nat} (h : w.ownsRow base 9 1 (.slice (some ⟨g, 0, none⟩) n c) n ((marks k0 n).map Value.string)) : StrsAt w g (marks k0 n) := by
  intro j x hx
  have hj : j < n := by
    rcases Nat.lt_or_ge j n with h1 | h1
    · exact h1
    · rw [List.getElem?_eq_none (by rw [marks_length]; exact h1)] at hx; cases hx
  rw [World.ownsRow.cellAt h j (by omega), List.getElem?_map, hx]
  rfl

theorem splitR_le (s t : ByteArray) (hs : s.size ≤ 1048576) : (splitR s t).1.length ≤ 2000000 := by
  unfold splitR
  split
  · have := (spSt_le s t[0] s.size).2
    simp [spAll]
    omega
  · simp

theorem mark1 {base g c : Nat} {l : List ByteArray} {W : World} {M : Int} (hM : M = ((1 + l.length : Nat) : Int)) (hl : l.length ≤ 2000000) (h : OwnsStrs W base (.slice (some ⟨g, 0, none⟩) l.length c) l) :
    Calls Tryd.prog 33 #[.slice (some ⟨g, 0, none⟩) l.length c, .int .i64 1] W fun e w' => e = .returned (.int .i64 M) ∧ StrsAt w' g (marks 1 l.length) ∧ W.grownBy w' (some g) ∧ g < w'.heap.size := by
  subst hM
  exact (markStringS_marks base g c l.length 1 (l.map Value.string) W hl (by simp) (by omega) (by omega) h).mono fun _ _ ⟨he, ho, hg⟩ => ⟨he, marks_own ho, hg, (World.ownsRow.lt ho g rfl).2⟩

theorem held1 {g c n : Nat} {W : World} {M : Int} (hM : M = ((1 + n : Nat) : Int)) (hl : n ≤ 2000000) (h : StrsAt W g (marks 1 n)) :
    Calls Tryd.prog 34 #[.slice (some ⟨g, 0, none⟩) n c, .int .i64 1] W fun e w' => e = .returned (.int .i64 M) ∧ Below W.heap.size W w' := by
  subst hM
  exact heldStringS_marks g c n 1 W hl (by omega) (by omega) h

set_option maxHeartbeats 1000000 in
theorem fnExactSplitText_walk (s t : ByteArray) (hs : s.size ≤ maxLen) (ht : t.size ≤ maxLen) (w : World) (m : Int) (hm : w.cell? ⟨2, 0, none⟩ = some (.int .i64 m)) :
    Calls Tryd.prog 7 #[.string s, .string t] w fun e w' => e = .returned (.bool true) ∧ Below w.heap.size w w' := by
  unfold maxLen at hs ht
  by_cases hA : (1048576 : Nat) < s.size
  · clear hm
    go_enter Tryd.func7, Tryd.ntmps7
    go_wp2_with fail
    go_ret
    exact ⟨rfl, Below.refl _ _⟩
  · by_cases hB : (1048576 : Nat) < t.size
    · clear hm
      go_enter Tryd.func7, Tryd.ntmps7
      go_wp2_with fail
      go_ret
      exact ⟨rfl, Below.refl _ _⟩
    · have HM := Lib.hid hm
      have hl0 := splitR_le s t (by omega)
      have h1 : ∀ W : World, Hid (Calls Tryd.prog 31 #[.string s, .string t] W fun e w' => AnsStrs W (splitR s t).1 (splitR s t).2 e w') := fun W => Lib.hid (splitS_calls s t W (by omega) (by omega))
      have h2 : ∀ W : World, Below w.heap.size w W → Hid (Calls Tryd.prog 24 #[.string s, .string t] W fun e w' => AnsStrs W (splitR s t).1 (splitR s t).2 e w') := fun W hb =>
        Lib.hid (splitI_calls s t m W (by omega) (by omega) ((hb.cell (p := ⟨2, 0, none⟩) (block_of_cell hm)).trans hm))
      clear hm
      generalize (splitR s t).1 = l at hl0 h1 h2
      generalize (splitR s t).2 = ok at h1 h2
      go_enter Tryd.func7, Tryd.ntmps7
      go_wp2_with fail
      refine (h1 w).out.mono ?_
      rintro e w1 ⟨g1, c1, rfl, ho1, hb1⟩
      have HO1 := Lib.hid ho1
      have HB1 := Lib.hid hb1
      clear ho1 hb1
      go_wp2_with fail
      refine (h2 w1 HB1.out).out.mono ?_
      rintro e w2 ⟨g2, c2, rfl, ho2, hb2⟩
      have HO2 := Lib.hid ho2
      have HB2 := Lib.hid hb2
      have HA1 : Hid (StrsAt w2 g1 l) := Lib.hid ((HO1.out.at rfl).below HB2.out HO1.out.ge.2)
      have HA2 : Hid (StrsAt w2 g2 l) := Lib.hid (HO2.out.at rfl)
      have hne : g1 < g2 := by have := HO2.out.ge.1; have := HO1.out.ge.2; omega
      clear ho2 hb2
      go_wp2_with fail
      refine (eqStringS_same g2 g1 c2 c1 l w2 hl0 HA2.out HA1.out).mono ?_
      rintro e w3 ⟨rfl, n3, rfl⟩
      go_wp2_with fail
      obtain ⟨M, hM⟩ : ∃ M : Int, M = ((1 + l.length : Nat) : Int) := ⟨_, rfl⟩
      have HMM := Lib.hid hM
      have hM0 : ¬ M < 0 := by omega
      clear hM
      refine (mark1 (W := w2.drewN n3) HMM.out hl0 HO2.out).mono ?_
      rintro e w4 ⟨rfl, hk4, hg4, hz4⟩
      have HK4 := Lib.hid hk4
      have HG4 := Lib.hid hg4
      have HA4 : Hid (StrsAt w4 g1 l) := Lib.hid ((HA1.out.drewN n3).grown HG4.out (by simp; omega))
      clear hk4 hg4
      go_wp2_with fail
      refine (held1 HMM.out hl0 HK4.out).mono ?_
      rintro e w5 ⟨rfl, hb5⟩
      have HB5 := Lib.hid hb5
      have h45 := hb5.size
      have h24 : w2.heap.size ≤ w4.heap.size := HG4.out.size
      have h12 := HO1.out.ge.2
      have h12b := HO2.out.ge
      have h02 := HB1.out.size
      have h03 := HB2.out.size
      have HK5 : Hid (StrsAt w5 g2 (marks 1 l.length)) := Lib.hid (HK4.out.below hb5 hz4)
      have HA5 : Hid (StrsAt w5 g1 l) := Lib.hid (HA4.out.below hb5 (by omega))
      have HW5 : Hid (Below w.heap.size w w5) := Lib.hid (((HB1.out.trans (HB2.out.mono h02)).grown (w' := w4) (row := some g2) ⟨HG4.out.os, HG4.out.tape, HG4.out.output, HG4.out.size, HG4.out.block⟩ (by omega) (fun q hq => by simp at hq; omega)).trans (hb5.mono (by omega)))
      clear hb5
      go_wp2_with fail
      refine (h2 w5 HW5.out).out.mono ?_
      rintro e w6 ⟨g3, c3, rfl, ho6, hb6⟩
      have HO6 := Lib.hid ho6
      have HB6 := Lib.hid hb6
      have HA6 : Hid (StrsAt w6 g1 l) := Lib.hid (HA5.out.below HB6.out (by omega))
      have HK6 : Hid (StrsAt w6 g2 (marks 1 l.length)) := Lib.hid (HK5.out.below HB6.out (by omega))
      have HA7 : Hid (StrsAt w6 g3 l) := Lib.hid (HO6.out.at rfl)
      clear ho6 hb6
      go_wp2_with fail
      refine (eqStringS_same g3 g1 c3 c1 l w6 hl0 HA7.out HA6.out).mono ?_
      rintro e w7 ⟨rfl, n7, rfl⟩
      go_wp2_with fail
      refine (held1 (W := w6.drewN n7) HMM.out hl0 HK6.out).mono ?_
      rintro e w8 ⟨rfl, hb8⟩
      have HW8 : Hid (Below w.heap.size w w8) := Lib.hid ((HW5.out.trans (HB6.out.mono HW5.out.size)).trans (c := w8) (by
        have h6 := (HW5.out.trans (HB6.out.mono HW5.out.size)).size
        exact Below.mono ⟨hb8.os, hb8.tape, hb8.output, hb8.size, hb8.block⟩ h6))
      clear hb8
      go_wp2_with fail
      go_ret
      exact ⟨rfl, HW8.out⟩

end Go.Proofs.YtjildaahoclojaaDoor
