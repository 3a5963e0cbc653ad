/- The draws of chapter 1 that give numbers, numerals and texts to seal. -/
import Derived.Test.YtjildaahoclojaaDoorDrawJoin
import Derived.Test.YtjildaahoclojaaDoorNumS
namespace Go.Proofs.YtjildaahoclojaaDoor
open Go.RowKit

/-- block g begins with these numbers -/
def IntsAt (w : World) (g : Nat) (l : List Int) : Prop := ∀ j x, l[j]? = some x → w.cell? ⟨g, j, none⟩ = some (.int .i64 x)

set_option maxHeartbeats 400000 in
theorem among_calls (W0 w : World) (q n N g c : Nat) (v : Value) (l : List Int) (hc : CodeIn W0 v n) (hn : n ≤ 1000000) (h : Cur W0 w q v N) (hN : N ≤ 90000) (hl : 1 ≤ l.length) (hl2 : l.length ≤ 100000) (hs : IntsAt w g l) (hgq : g ≠ q) :
    Calls Tryd.prog 35 #[.pointer (some ⟨q, 0, none⟩), .slice (some ⟨g, 0, none⟩) l.length c] w fun e w' => (∃ x ∈ l, e = .returned (.int .i64 x)) ∧ Cur W0 w' q v (N + 2) ∧ w.grownBy w' (some q) := by
  have HP := Lib.hid (pick_calls W0 w q n N l.length v hc hn h hN hl hl2)
  have HS := Lib.hid hs
  clear h hc hn hs
  go_enter Tryd.func35, Tryd.ntmps35
  go_wp2_with fail
  refine HP.out.mono ?_
  rintro e w1 ⟨⟨r, hr, rfl⟩, hc1, hg1⟩
  have hx := HS.out r l[r] (List.getElem?_eq_getElem hr)
  have hxc : w1.cell? ⟨g, r, none⟩ = some (.int .i64 l[r]) := hg1.cell hx (by simpa using hgq)
  have hmem : Hid (l[r] ∈ l) := Lib.hid (List.getElem_mem hr)
  generalize l[r] = x at hxc hmem
  have HC1 := Lib.hid hc1
  have HG1 := Lib.hid hg1
  have b0 : (0 : Int) ≤ r := by omega
  have b1 : (r : Int) < l.length := by omega
  clear hc1 hg1 hx
  go_wp2_with fail
  go_ret
  exact ⟨⟨x, hmem.out, rfl⟩, HC1.out, HG1.out⟩

theorem among_lit (W0 w : World) (q n N : Nat) (v : Value) (l : List Int) (cs : Array Value) (hcs : cs = (l.map (Value.int .i64)).toArray) (k : Nat) (hk : k = l.length) (hc : CodeIn W0 v n) (hn : n ≤ 1000000) (h : Cur W0 w q v N) (hN : N ≤ 90000) (hl : 1 ≤ l.length) (hl2 : l.length ≤ 100000) :
    Calls Tryd.prog 35 #[.pointer (some ⟨q, 0, none⟩), .slice (some ⟨w.heap.size, 0, none⟩) k k] (w.alloc (.cells cs 3)) fun e w' => (∃ x ∈ l, e = .returned (.int .i64 x)) ∧ Cur W0 w' q v (N + 2) ∧ w.grownBy w' (some q) := by
  subst hk
  have hlt := h.lt
  have hA : Cur W0 (w.alloc (.cells cs 3)) q v N := h.grown (World.grownBy_alloc w _ none) (fun k hk => by cases hk) (by simp)
  have hS : IntsAt (w.alloc (.cells cs 3)) w.heap.size l := by
    intro j x hx
    rw [cell_of_block (heap_alloc_new w _) j, hcs]
    simp [hx]
  refine (among_calls W0 _ q n N w.heap.size l.length v l hc hn hA hN hl hl2 hS (by omega)).mono ?_
  rintro e w' ⟨h1, h2, h3⟩
  exact ⟨h1, h2, gtrans (World.grownBy_alloc w _ (some q)) h3⟩

def numsL (r : Int) : List Int := [0, 1, -1, 10, 999999, -999999, 1000000, -1000000, r]

set_option maxRecDepth 100000 in
set_option maxHeartbeats 1000000 in
theorem drawNumText_calls (ao : Option Addr) (n c : Nat) (w : World) (hc : CodeIn w (.slice ao n c) n) (hn : n ≤ 1000000) :
    Calls Tryd.prog 11 #[.slice ao n c] w fun e w' => (∃ x : Int, -1000000 ≤ x ∧ x ≤ 1000000 ∧ e = .returned (.int .i64 x)) ∧ Below w.heap.size w w' := by
  have HC := Lib.hid (cur_new w (.slice ao n c))
  have HP : ∀ (W : World) (N m : Nat), N ≤ 50 → 1 ≤ m → m ≤ 1000 → Cur w W w.heap.size (.slice ao n c) N → Hid (Calls Tryd.prog 36 #[.pointer (some ⟨w.heap.size, 0, none⟩), .int .i64 m] W fun e w' => (∃ r : Nat, r < m ∧ e = .returned (.int .i64 r)) ∧ Cur w w' w.heap.size (.slice ao n c) (N + 2) ∧ W.grownBy w' (some w.heap.size)) := fun W N m hN h1 h2 hW => Lib.hid (pick_calls w W w.heap.size n N m (.slice ao n c) hc hn hW (by omega) h1 (by omega))
  have HL : ∀ (W : World) (r : Int), Cur w W w.heap.size (.slice ao n c) 2 → Hid (Calls Tryd.prog 35 #[.pointer (some ⟨w.heap.size, 0, none⟩), .slice (some ⟨W.heap.size, 0, none⟩) 9 9] (W.alloc (.cells ((numsL r).map (Value.int .i64)).toArray 3)) fun e w' => (∃ x ∈ numsL r, e = .returned (.int .i64 x)) ∧ Cur w w' w.heap.size (.slice ao n c) (2 + 2) ∧ W.grownBy w' (some w.heap.size)) := fun W r hW => Lib.hid (among_lit w W w.heap.size n 2 (.slice ao n c) (numsL r) _ rfl 9 rfl hc hn hW (by omega) (by simp [numsL]) (by simp [numsL]))
  clear hc hn
  go_enter Tryd.func11, Tryd.ntmps11
  go_wp2_with fail
  refine (HP _ 0 1000 (by omega) (by omega) (by omega) HC.out).out.mono ?_
  rintro e w1 ⟨⟨r, hr, rfl⟩, hc1, hg1⟩
  have HC1 := Lib.hid hc1
  clear hc1 hg1
  go_wp2_with fail
  refine (HL w1 ((r : Int) - 500) HC1.out).out.mono ?_
  rintro e w2 ⟨⟨x, hx, rfl⟩, hc2, hg2⟩
  have HC2 := Lib.hid hc2
  have HX : Hid (-1000000 ≤ x ∧ x ≤ 1000000) := Lib.hid (by
    simp [numsL] at hx
    omega)
  clear hc2 hg2 hx
  go_wp2_with fail
  go_ret
  exact ⟨⟨x, HX.out.1, HX.out.2, rfl⟩, HC2.out.2.1⟩

end Go.Proofs.YtjildaahoclojaaDoor
