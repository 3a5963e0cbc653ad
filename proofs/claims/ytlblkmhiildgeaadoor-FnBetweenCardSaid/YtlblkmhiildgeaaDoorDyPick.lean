/- The cursor's picks, in a seat that compares no lists. -/
import Derived.Test.YtlblkmhiildgeaaDoorCur
import Derived.Test.YtlblkmhiildgeaaDoorDyWorld
namespace Go.Proofs.YtlblkmhiildgeaaDoor
open Go.RowKit
/-- block g begins with these strings -/
def StrsAt (w : World) (g : Nat) (l : List ByteArray) : Prop := ∀ j x, l[j]? = some x → w.cell? ⟨g, j, none⟩ = some (.string x)

/-- q is a cursor of the call's own over v, at most N bytes on; what was there before the call is as it was -/
def Cur (W0 w : World) (q : Nat) (v : Value) (N : Nat) : Prop := W0.heap.size ≤ q ∧ Below W0.heap.size W0 w ∧ ∃ a, a ≤ N ∧ CurIs w q v a

theorem gtrans {a b c : World} {row : Option Nat} (h : a.grownBy b row) (k : b.grownBy c row) : a.grownBy c row :=
  ⟨k.os.trans h.os, k.tape.trans h.tape, k.output.trans h.output, Nat.le_trans h.size k.size, fun i hi hne => (k.block i (Nat.lt_of_lt_of_le hi h.size) hne).trans (h.block i hi hne)⟩

theorem Cur.mono {W0 w : World} {q : Nat} {v : Value} {N M : Nat} (h : Cur W0 w q v N) (hNM : N ≤ M) : Cur W0 w q v M := by
  obtain ⟨h1, h2, a, h3, h4⟩ := h
  exact ⟨h1, h2, a, by omega, h4⟩

theorem Cur.lt {W0 w : World} {q : Nat} {v : Value} {N : Nat} (h : Cur W0 w q v N) : q < w.heap.size := by
  obtain ⟨_, _, a, _, s, hs⟩ := h
  rcases Nat.lt_or_ge q w.heap.size with h1 | h1
  · exact h1
  · rw [Array.getElem?_eq_none h1] at hs; cases hs

theorem Cur.grown {W0 w w' : World} {q : Nat} {v : Value} {N : Nat} {row : Option Nat} (h : Cur W0 w q v N) (hg : w.grownBy w' row) (hr : ∀ k, row = some k → W0.heap.size ≤ k) (hne : some q ≠ row) : Cur W0 w' q v N := by
  have hlt := h.lt
  obtain ⟨h1, h2, a, h3, s, hs⟩ := h
  exact ⟨h1, h2.grown hg h2.size hr, a, h3, s, (hg.block q hlt hne).trans hs⟩

theorem next_calls (W0 w : World) (q n N : Nat) (v : Value) (hc : CodeIn W0 v n) (hn : n ≤ 1000000) (h : Cur W0 w q v N) (hN : N ≤ 100000) :
    Calls Tryd.prog 76 #[.pointer (some ⟨q, 0, none⟩)] w fun e w' => (∃ r : Nat, r < 256 ∧ e = .returned (.int .i64 r)) ∧ Cur W0 w' q v (N + 1) ∧ w.grownBy w' (some q) := by
  have hlt := h.lt
  obtain ⟨h1, h2, a, h3, s, hs⟩ := h
  have key : ∀ e w', ((∃ r : Nat, r < 256 ∧ e = Ending.returned (.int .i64 r)) ∧ CurIs w' q v (a + 1) ∧ w.grownBy w' (some q)) → (∃ r : Nat, r < 256 ∧ e = Ending.returned (.int .i64 r)) ∧ Cur W0 w' q v (N + 1) ∧ w.grownBy w' (some q) := by
    rintro e w' ⟨k1, k2, k3⟩
    exact ⟨k1, ⟨h1, h2.grown k3 h2.size (fun k hk => by cases hk; exact h1), a + 1, by omega, k2⟩, k3⟩
  rcases hc.below h2 with ⟨ao, c, rfl, rfl⟩ | ⟨b, off, c, rfl, hp, hcell⟩
  · exact (next_out q a ao 0 c s w (by omega) (by omega) hs).mono key
  · by_cases ha : a < n
    · obtain ⟨x, hx, hxc⟩ := hcell a ha
      exact (next_in q b off c n a x s w ha hn hx hxc hs).mono key
    · exact (next_out q a _ n c s w (by omega) (by omega) hs).mono key

set_option maxHeartbeats 400000 in
theorem pick_calls (W0 w : World) (q n N m : Nat) (v : Value) (hc : CodeIn W0 v n) (hn : n ≤ 1000000) (h : Cur W0 w q v N) (hN : N ≤ 90000) (hm : 1 ≤ m) (hm2 : m ≤ 100000) :
    Calls Tryd.prog 65 #[.pointer (some ⟨q, 0, none⟩), .int .i64 m] w fun e w' => (∃ r : Nat, r < m ∧ e = .returned (.int .i64 r)) ∧ Cur W0 w' q v (N + 2) ∧ w.grownBy w' (some q) := by
  have H := Lib.hid h
  have HX : ∀ W M, M ≤ 100000 → Cur W0 W q v M → Hid (Calls Tryd.prog 76 #[.pointer (some ⟨q, 0, none⟩)] W fun e w' => (∃ r : Nat, r < 256 ∧ e = .returned (.int .i64 r)) ∧ Cur W0 w' q v (M + 1) ∧ W.grownBy w' (some q)) := fun W M hM hW => Lib.hid (next_calls W0 W q n M v hc hn hW hM)
  clear h hc hn
  by_cases h1 : m ≤ 1
  · obtain rfl : m = 1 := by omega
    go_enter Tryd.func65, Tryd.ntmps65
    go_wp2_with fail
    go_ret
    exact ⟨⟨0, by omega, rfl⟩, H.out.mono (by omega), World.grownBy.refl _ _⟩
  · by_cases h2 : 200 < m
    · go_enter Tryd.func65, Tryd.ntmps65
      go_wp2_with fail
      refine (HX w N (by omega) H.out).out.mono ?_
      rintro e w1 ⟨⟨r, hr, rfl⟩, hc1, hg1⟩
      have HC1 := Lib.hid hc1
      have HG1 := Lib.hid hg1
      clear hc1 hg1
      go_wp2_with fail
      refine (HX w1 (N + 1) (by omega) HC1.out).out.mono ?_
      rintro e w2 ⟨⟨r2, hr2, rfl⟩, hc2, hg2⟩
      have HC2 := Lib.hid hc2
      have HG2 := Lib.hid (gtrans HG1.out hg2)
      clear hc2 hg2
      go_wp2_with fail
      go_ret
      exact ⟨⟨(r * 256 + r2) % m, Nat.mod_lt _ (by omega), ret_int (by simp)⟩, HC2.out, HG2.out⟩
    · go_enter Tryd.func65, Tryd.ntmps65
      go_wp2_with fail
      refine (HX w N (by omega) H.out).out.mono ?_
      rintro e w1 ⟨⟨r, hr, rfl⟩, hc1, hg1⟩
      have HC1 := Lib.hid hc1
      have HG1 := Lib.hid hg1
      clear hc1 hg1
      go_wp2_with fail
      go_ret
      exact ⟨⟨r % m, Nat.mod_lt _ (by omega), ret_int (by omega)⟩, HC1.out.mono (by omega), HG1.out⟩

set_option maxHeartbeats 400000 in
theorem one_calls (W0 w : World) (q n N m : Nat) (v : Value) (hc : CodeIn W0 v n) (hn : n ≤ 1000000) (h : Cur W0 w q v N) (hN : N ≤ 90000) (hm : 1 ≤ m) (hm2 : m ≤ 100000) :
    Calls Tryd.prog 48 #[.pointer (some ⟨q, 0, none⟩), .int .i64 m] w fun e w' => (∃ b : Bool, e = .returned (.bool b)) ∧ Cur W0 w' q v (N + 2) ∧ w.grownBy w' (some q) := by
  have HP := Lib.hid (pick_calls W0 w q n N m v hc hn h hN hm hm2)
  clear h hc hn
  go_enter Tryd.func48, Tryd.ntmps48
  go_wp2_with fail
  refine HP.out.mono ?_
  rintro e w1 ⟨⟨r, hr, rfl⟩, hc1, hg1⟩
  have HC1 := Lib.hid hc1
  have HG1 := Lib.hid hg1
  clear hc1 hg1
  go_wp2_with fail
  go_ret
  exact ⟨⟨_, rfl⟩, HC1.out, HG1.out⟩

set_option maxHeartbeats 400000 in
theorem of_calls (W0 w : World) (q n N g c : Nat) (v : Value) (l : List ByteArray) (hc : CodeIn W0 v n) (hn : n ≤ 1000000) (h : Cur W0 w q v N) (hN : N ≤ 90000) (hl : 1 ≤ l.length) (hl2 : l.length ≤ 100000) (hs : StrsAt w g l) (hgq : g ≠ q) :
    Calls Tryd.prog 57 #[.pointer (some ⟨q, 0, none⟩), .slice (some ⟨g, 0, none⟩) l.length c] w fun e w' => (∃ x ∈ l, e = .returned (.string x)) ∧ Cur W0 w' q v (N + 2) ∧ w.grownBy w' (some q) := by
  have HP := Lib.hid (pick_calls W0 w q n N l.length v hc hn h hN hl hl2)
  have HS := Lib.hid hs
  clear h hc hn hs
  go_enter Tryd.func57, Tryd.ntmps57
  go_wp2_with fail
  refine HP.out.mono ?_
  rintro e w1 ⟨⟨r, hr, rfl⟩, hc1, hg1⟩
  have hx := HS.out r l[r] (List.getElem?_eq_getElem hr)
  have hxc : w1.cell? ⟨g, r, none⟩ = some (.string l[r]) := hg1.cell hx (by simpa using hgq)
  have hmem : Hid (l[r] ∈ l) := Lib.hid (List.getElem_mem hr)
  generalize l[r] = x at hxc hmem
  have HC1 := Lib.hid hc1
  have HG1 := Lib.hid hg1
  have b0 : (0 : Int) ≤ r := by omega
  have b1 : (r : Int) < l.length := by omega
  clear hc1 hg1 hx
  go_wp2_with fail
  go_ret
  exact ⟨⟨x, hmem.out, rfl⟩, HC1.out, HG1.out⟩

theorem of_lit (W0 w : World) (q n N : Nat) (v : Value) (l : List ByteArray) (cs : Array Value) (hcs : cs = (l.map Value.string).toArray) (k : Nat) (hk : k = l.length) (hc : CodeIn W0 v n) (hn : n ≤ 1000000) (h : Cur W0 w q v N) (hN : N ≤ 90000) (hl : 1 ≤ l.length) (hl2 : l.length ≤ 100000) :
    Calls Tryd.prog 57 #[.pointer (some ⟨q, 0, none⟩), .slice (some ⟨w.heap.size, 0, none⟩) k k] (w.alloc (.cells cs 9)) fun e w' => (∃ x ∈ l, e = .returned (.string x)) ∧ Cur W0 w' q v (N + 2) ∧ w.grownBy w' (some q) := by
  subst hk
  have hlt := h.lt
  have hA : Cur W0 (w.alloc (.cells cs 9)) q v N := h.grown (World.grownBy_alloc w _ none) (fun k hk => by cases hk) (by simp)
  have hS : StrsAt (w.alloc (.cells cs 9)) w.heap.size l := by
    intro j x hx
    rw [cell_of_block (heap_alloc_new w _) j, hcs]
    simp [hx]
  refine (of_calls W0 _ q n N w.heap.size l.length v l hc hn hA hN hl hl2 hS (by omega)).mono ?_
  rintro e w' ⟨h1, h2, h3⟩
  exact ⟨h1, h2, gtrans (World.grownBy_alloc w _ (some q)) h3⟩

/-- the cursor that a draw makes -/
theorem cur_new (w : World) (v : Value) : Cur w (w.alloc (.cells #[v, .int .i64 0, .int .u64 0] 53)) w.heap.size v 0 :=
  ⟨Nat.le_refl _, (Below.refl _ _).alloc (Nat.le_refl _) _, 0, Nat.le_refl _, 0, heap_alloc_new w _⟩

/-- block g begins with these numbers -/
def IntsAt (w : World) (g : Nat) (l : List Int) : Prop := ∀ j x, l[j]? = some x → w.cell? ⟨g, j, none⟩ = some (.int .i64 x)

set_option maxHeartbeats 400000 in
theorem among_calls (W0 w : World) (q n N g c : Nat) (v : Value) (l : List Int) (hc : CodeIn W0 v n) (hn : n ≤ 1000000) (h : Cur W0 w q v N) (hN : N ≤ 90000) (hl : 1 ≤ l.length) (hl2 : l.length ≤ 100000) (hs : IntsAt w g l) (hgq : g ≠ q) :
    Calls Tryd.prog 50 #[.pointer (some ⟨q, 0, none⟩), .slice (some ⟨g, 0, none⟩) l.length c] w fun e w' => (∃ x ∈ l, e = .returned (.int .i64 x)) ∧ Cur W0 w' q v (N + 2) ∧ w.grownBy w' (some q) := by
  have HP := Lib.hid (pick_calls W0 w q n N l.length v hc hn h hN hl hl2)
  have HS := Lib.hid hs
  clear h hc hn hs
  go_enter Tryd.func50, Tryd.ntmps50
  go_wp2_with fail
  refine HP.out.mono ?_
  rintro e w1 ⟨⟨r, hr, rfl⟩, hc1, hg1⟩
  have hx := HS.out r l[r] (List.getElem?_eq_getElem hr)
  have hxc : w1.cell? ⟨g, r, none⟩ = some (.int .i64 l[r]) := hg1.cell hx (by simpa using hgq)
  have hmem : Hid (l[r] ∈ l) := Lib.hid (List.getElem_mem hr)
  generalize l[r] = x at hxc hmem
  have HC1 := Lib.hid hc1
  have HG1 := Lib.hid hg1
  have b0 : (0 : Int) ≤ r := by omega
  have b1 : (r : Int) < l.length := by omega
  clear hc1 hg1 hx
  go_wp2_with fail
  go_ret
  exact ⟨⟨x, hmem.out, rfl⟩, HC1.out, HG1.out⟩

theorem among_lit (W0 w : World) (q n N : Nat) (v : Value) (l : List Int) (cs : Array Value) (hcs : cs = (l.map (Value.int .i64)).toArray) (k : Nat) (hk : k = l.length) (hc : CodeIn W0 v n) (hn : n ≤ 1000000) (h : Cur W0 w q v N) (hN : N ≤ 90000) (hl : 1 ≤ l.length) (hl2 : l.length ≤ 100000) :
    Calls Tryd.prog 50 #[.pointer (some ⟨q, 0, none⟩), .slice (some ⟨w.heap.size, 0, none⟩) k k] (w.alloc (.cells cs 3)) fun e w' => (∃ x ∈ l, e = .returned (.int .i64 x)) ∧ Cur W0 w' q v (N + 2) ∧ w.grownBy w' (some q) := by
  subst hk
  have hlt := h.lt
  have hA : Cur W0 (w.alloc (.cells cs 3)) q v N := h.grown (World.grownBy_alloc w _ none) (fun k hk => by cases hk) (by simp)
  have hS : IntsAt (w.alloc (.cells cs 3)) w.heap.size l := by
    intro j x hx
    rw [cell_of_block (heap_alloc_new w _) j, hcs]
    simp [hx]
  refine (among_calls W0 _ q n N w.heap.size l.length v l hc hn hA hN hl hl2 hS (by omega)).mono ?_
  rintro e w' ⟨h1, h2, h3⟩
  exact ⟨h1, h2, gtrans (World.grownBy_alloc w _ (some q)) h3⟩

end Go.Proofs.YtlblkmhiildgeaaDoor
