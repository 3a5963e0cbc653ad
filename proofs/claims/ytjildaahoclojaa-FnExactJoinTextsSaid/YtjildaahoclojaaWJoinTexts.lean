/- The walk of laws.FnExactJoinTexts: both functions answer the same, and leave the list as it was. -/
import Derived.Test.YtjildaahoclojaaJoinI
import Derived.Test.YtjildaahoclojaaEqStrs
import Derived.ProofKit
namespace Go.Proofs.Ytjildaahoclojaa
open Go.RowKit

theorem ownsAt {w : World} {base g c : Nat} {l : List ByteArray} (h : w.ownsRow base 9 1 (.slice (some ⟨g, 0, none⟩) l.length c) l.length (l.map Value.string)) : StrsAt w g l := by
  intro j x hx
  have hj : j < l.length := by
    rcases Nat.lt_or_ge j l.length with h1 | h1
    · exact h1
    · rw [List.getElem?_eq_none h1] at hx; cases hx
  rw [World.ownsRow.cellAt h j (by omega), List.getElem?_map, hx]
  rfl

theorem ownsCap {w : World} {base g c n : Nat} {xs : List Value} (h : w.ownsRow base 9 1 (.slice (some ⟨g, 0, none⟩) n c) n xs) : n ≤ c := by
  rcases h.2 with ⟨h1, _⟩ | ⟨g', cap, cur, h1, _, _, h2, _⟩
  · cases h1
  · cases h1
    exact h2

theorem StrsAt.below {w w' : World} {g : Nat} {l : List ByteArray} (h : StrsAt w g l) (hb : Below w.heap.size w w') (hg : g < w.heap.size) : StrsAt w' g l :=
  h.of_same fun o => hb.cell (p := ⟨g, o, none⟩) hg

theorem mem_sumSz : ∀ (l : List ByteArray) (x : ByteArray), x ∈ l → x.size ≤ sumSz l
  | [], _, h => by cases h
  | y :: r, x, h => by
    have e : sumSz (y :: r) = y.size + sumSz r := by simp [sumSz]
    rcases List.mem_cons.1 h with rfl | h
    · omega
    · have := mem_sumSz r x h
      omega

theorem strsIn_open {a : Addr} {len cap : Nat} {ss : List ByteArray} {w : World} (hl : len ≤ cap) (hz : ss.length = cap)
    (hcell : ∀ i, i < ss.length → w.cell? (a.add i) = some (.string (ss.getD i ByteArray.empty))) : StrsIn w (.slice (some a) len cap) (ss.take len) := by
  by_cases h0 : len = 0
  · subst h0
    exact Or.inl ⟨_, _, rfl, by simp⟩
  · have hlen : (ss.take len).length = len := by rw [List.length_take]; omega
    obtain ⟨b, off, spot⟩ := a
    have hspot : spot = none := by simpa [Addr.add] using World.cell?_spot (hcell 0 (by omega))
    subst hspot
    refine Or.inr ⟨b, off, cap, by rw [hlen], by omega, fun j x hx => ?_⟩
    have hj : j < len := by
      rcases Nat.lt_or_ge j len with h | h
      · exact h
      · rw [List.getElem?_eq_none (by omega)] at hx; cases hx
    have hc := hcell j (by omega)
    rw [Go.WideShapes.add_plain] at hc
    rw [hc]
    rw [List.getElem?_take_of_lt hj] at hx
    rw [List.getD_eq_getElem?_getD, hx]
    rfl

set_option maxHeartbeats 1000000 in
theorem fnExactJoinTexts_walk (v : Value) (l : List ByteArray) (t : ByteArray) (w : World) (hv : StrsIn w v l) (hl : l.length ≤ maxLen) (hx : ∀ x ∈ l, x.size ≤ maxLen) (ht : t.size ≤ maxLen) :
    Calls Try.prog 3 #[v, .string t] w fun e w' => e = .returned (.bool true) ∧ Below w.heap.size w w' := by
  unfold maxLen at ht
  by_cases hA : (1048576 : Nat) < t.size
  · clear hv hl hx
    go_enter Try.func3, Try.ntmps3
    go_wp2_with fail
    go_ret
    exact ⟨rfl, Below.refl _ _⟩
  · obtain ⟨r, hr⟩ : ∃ r : Int, r = if l.length + sumSz l ≤ 1048576 then 1048576 - ((l.length + sumSz l : Nat) : Int) else -1 := ⟨_, rfl⟩
    have HZ := Lib.hid (szStringS_calls v l w hv hl hx r hr)
    by_cases hB : l.length + sumSz l ≤ 1048576
    · rw [if_pos hB] at hr
      have hr0 : ¬ r < 0 := by omega
      have hxs : ∀ x ∈ l, x.size ≤ 1048576 := fun x hx => by
        have := mem_sumSz l x hx
        omega
      have HV : ∀ W : World, Below w.heap.size w W → Hid (Calls Try.prog 8 #[v] W fun e w' => ∃ g c, e = .returned (.slice (some ⟨g, 0, none⟩) l.length c) ∧ w'.ownsRow W.heap.size 9 1 (.slice (some ⟨g, 0, none⟩) l.length c) l.length (l.map Value.string) ∧ Below W.heap.size W w') := fun W hb =>
        Lib.hid (toStringS_calls v l W (hv.below hb) (by omega))
      have HS : ∀ g c W, StrsAt W g l → Hid (Calls Try.prog 7 #[.slice (some ⟨g, 0, none⟩) l.length c, .string t] W fun e w' => JoinTo l t e ∧ ∃ m, w' = W.drewN m) := fun g c W h =>
        Lib.hid (joinS_calls g c l t W (by omega) (by omega) hxs h)
      have HI : ∀ g c W, l.length ≤ c → g < W.heap.size → StrsAt W g l → Hid (Calls Try.prog 9 #[.slice (some ⟨g, 0, none⟩) l.length c, .string t] W fun e w' => JoinTo l t e ∧ Below W.heap.size W w') := fun g c W hc hg h =>
        Lib.hid (joinI_calls g c l t W hc (by omega) (by omega) hxs hg h)
      have hl2 : l.length ≤ 2000000 := by omega
      clear hr hB hxs hv hl hx ht
      go_enter Try.func3, Try.ntmps3
      go_wp2_with fail
      refine HZ.out.mono ?_
      rintro e w1 ⟨rfl, rfl⟩
      go_wp2_with fail
      refine (HV w (Below.refl _ _)).out.mono ?_
      rintro e w1 ⟨g1, c1, rfl, ho1, hb1⟩
      have HO1 := Lib.hid ho1
      have HB1 := Lib.hid hb1
      clear ho1 hb1
      go_wp2_with fail
      refine (HS g1 c1 w1 (ownsAt HO1.out)).out.mono ?_
      rintro e w2 ⟨hj, m, rfl⟩
      obtain ⟨s, b, rfl, hj2⟩ := joinTo_pair hj
      have HJ := Lib.hid hj2
      clear hj hj2
      have HB2 : Hid (Below w.heap.size w (w1.drewN m)) := Lib.hid ⟨HB1.out.os, HB1.out.tape, HB1.out.output, HB1.out.size, HB1.out.block⟩
      go_wp2_with fail
      refine (HV _ HB2.out).out.mono ?_
      rintro e w3 ⟨g2, c2, rfl, ho3, hb3⟩
      have HO3 := Lib.hid ho3
      have HB3 : Hid (Below w.heap.size w w3) := Lib.hid (HB2.out.trans (hb3.mono HB2.out.size))
      have hg2 : g2 < w3.heap.size := (World.ownsRow.lt ho3 g2 rfl).2
      clear ho3 hb3
      go_wp2_with fail
      refine (HI g2 c2 w3 (ownsCap HO3.out) hg2 (ownsAt HO3.out)).out.mono ?_
      rintro e w4 ⟨hj, hb4⟩
      obtain ⟨s', b', rfl, hj2⟩ := joinTo_pair hj
      obtain ⟨e1, e2⟩ := joinTo_unique HJ.out hj2
      have HB4 : Hid (Below w.heap.size w w4) := Lib.hid (HB3.out.trans (hb4.mono HB3.out.size))
      have HA4 : Hid (StrsAt w4 g2 l) := Lib.hid ((ownsAt HO3.out).below hb4 hg2)
      have hg4 : g2 < w4.heap.size := by have := hb4.size; omega
      clear hj hj2 hb4 HJ
      subst e1 e2
      go_wp2_with fail
      refine (HV _ HB4.out).out.mono ?_
      rintro e w5 ⟨g3, c3, rfl, ho5, hb5⟩
      have HO5 := Lib.hid ho5
      have HB5 : Hid (Below w.heap.size w w5) := Lib.hid (HB4.out.trans (hb5.mono HB4.out.size))
      have HA5 : Hid (StrsAt w5 g2 l) := Lib.hid (HA4.out.below hb5 hg4)
      clear ho5 hb5
      go_wp2_with fail
      refine (eqStringS_same g2 g3 c2 c3 l w5 hl2 HA5.out (ownsAt HO5.out)).mono ?_
      rintro e w6 ⟨rfl, n, rfl⟩
      go_wp2_with fail
      go_ret
      exact ⟨rfl, ⟨HB5.out.os, HB5.out.tape, HB5.out.output, HB5.out.size, HB5.out.block⟩⟩
    · rw [if_neg hB] at hr
      have hr0 : r < 0 := by omega
      clear hr hB hv hl hx
      go_enter Try.func3, Try.ntmps3
      go_wp2_with fail
      refine HZ.out.mono ?_
      rintro e w1 ⟨rfl, rfl⟩
      go_wp2_with fail
      go_ret
      exact ⟨rfl, Below.refl _ _⟩

end Go.Proofs.Ytjildaahoclojaa
