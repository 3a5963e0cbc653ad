/- The program's contest, as it lies in memory. -/
import Derived.Test.YtjllpcnbahdmhaaOrTab
import Derived.Test.YtjllpcnbahdmhaaFmBk
import Derived.IntWalk
namespace Go.Proofs.Ytjllpcnbahdmhaa
open Go.RowKit
set_option linter.unusedVariables false
set_option linter.unusedSimpArgs false

theorem options_calls (v1 v2 : Value) (left : Bool) (w : World) :
    Calls Try.prog 95 #[.agg #[v1, v2], .bool left] w fun e w' => e = .returned (if left then v1 else v2) ∧ Below w.heap.size w w' := by
  have HB := Lib.hid fun o => show Below w.heap.size w (w.alloc o) from (Below.refl _ _).alloc (Nat.le_refl _) _
  cases left with
  | true =>
    go_enter Try.func95, Try.ntmps95
    go_wp2
    go_ret
    exact ⟨rfl, HB.out _⟩
  | false =>
    go_enter Try.func95, Try.ntmps95
    go_wp2
    go_ret
    exact ⟨rfl, HB.out _⟩

/-- the table of answers -/
def RowV (base g n cap : Nat) (cs : List Int) (w : World) : Prop := w.ownsRow base 142 1 (.slice (some ⟨g, 0, none⟩) n cap) n (cs.map (Value.int .i8))

theorem RowV.at_ {base g n cap x : Nat} {v : Int} {cs : List Int} {w : World} (h : RowV base g n cap cs w) (hx : cs[x]? = some v) : w.cell? ⟨g, x, none⟩ = some (.int .i8 v) ∧ w.frozen? ⟨g, x, none⟩ = false := by
  have hl : (cs.map (Value.int .i8)).length = n * 1 := h.1
  have hlt := get_lt hx
  rw [List.length_map] at hl
  have h2 := World.ownsRow.cellAt h x (by omega)
  refine ⟨?_, World.ownsRow.frozenAt h x⟩
  rw [h2, List.getElem?_map, hx]
  rfl

theorem RowV.put {base g n cap x : Nat} {v : Int} {cs : List Int} {w : World} (h : RowV base g n cap cs w) :
    RowV base g n cap (cs.set x v) (w.setCell ⟨g, x, none⟩ (.int .i8 v)) ∧ Only w (w.setCell ⟨g, x, none⟩ (.int .i8 v)) (fun b => b = g) := by
  have h2 := World.ownsRow.stored h x (.int .i8 v)
  rw [← List.map_set] at h2
  exact ⟨h2.1, Only.of_set _ rfl⟩

theorem RowV.lt {base g n cap : Nat} {cs : List Int} {w : World} (h : RowV base g n cap cs w) : base ≤ g ∧ g < w.heap.size := World.ownsRow.lt h g rfl

theorem RowV.below {base g n cap : Nat} {cs : List Int} {w w' : World} (h : RowV base g n cap cs w) (hb : Below w.heap.size w w') : RowV base g n cap cs w' :=
  own_only h (Only.of_below (F := fun _ => False) hb) (fun _ _ => id)

/-- a contest of two games -/
structure Ct (w : World) (base P g n cap : Nat) (A B : List Nd) (va vb : Value) : Prop where
  c0 : w.cell? ⟨P, 0, none⟩ = some va
  c1 : w.cell? ⟨P, 1, none⟩ = some vb
  c2 : w.cell? ⟨P, 2, none⟩ = some (.slice (some ⟨g, 0, none⟩) n cap)
  na : NodesZ w 0 base va (A.map upN)
  nb : NodesZ w 0 base vb (B.map upN)
  hg : base ≤ g
  hgl : g < w.heap.size
  hP : P ≠ g

theorem Only.sameIn {w w' : World} {F : Nat → Prop} {hi : Nat} (h : Only w w' F) (hl : hi ≤ w.heap.size) (hF : ∀ b, b < hi → ¬ F b) : SameIn 0 hi w w' := fun b o _ h2 => h.cell (by omega) (hF b h2)

theorem Ct.only {w w' : World} {base P g n cap : Nat} {A B : List Nd} {va vb : Value} (h : Ct w base P g n cap A B va vb) (ho : Only w w' (fun b => b = g)) : Ct w' base P g n cap A B va vb := by
  have hP := block_of_cell h.c0
  have h1 := h.hg
  have h2 := h.hgl
  have hs : SameIn 0 base w w' := ho.sameIn (by omega) (fun b hb e => by omega)
  exact ⟨(ho.cell hP h.hP).trans h.c0, (ho.cell hP h.hP).trans h.c1, (ho.cell hP h.hP).trans h.c2, h.na.keep hs, h.nb.keep hs, h.hg, Nat.lt_of_lt_of_le h.hgl ho.size, h.hP⟩

theorem Ct.below {w w' : World} {base P g n cap : Nat} {A B : List Nd} {va vb : Value} (h : Ct w base P g n cap A B va vb) (hb : Below w.heap.size w w') : Ct w' base P g n cap A B va vb := h.only (Only.of_below hb)

/-- what a question of the contest leaves -/
def Asked (base g n cap : Nat) (A B : List Nd) (w w' : World) : Prop := ∃ cs, Wn A B cs ∧ RowV base g n cap cs w' ∧ Only w w' (fun b => b = g)

/-- a node of a slice of nodes of numbers, cell by cell -/
theorem nodes_at {w : World} {lo hi : Nat} {v : Value} {A : List Nd} (h : NodesZ w lo hi v (A.map upN)) {i : Nat} {nd : Nd} (hi' : A[i]? = some nd) :
    ∃ b off c v1 v2, v = .slice (some ⟨b, off, none⟩) A.length c ∧ b < hi ∧ w.cell? ⟨b, off + i * 2, none⟩ = some v1 ∧ w.cell? ⟨b, off + i * 2 + 1, none⟩ = some v2 ∧ IntsZ w lo hi v1 (upL nd.1) ∧ IntsZ w lo hi v2 (upL nd.2) := by
  obtain ⟨ao, c, rfl, _, h3⟩ := h
  obtain ⟨b, off, v1, v2, rfl, _, hb, p1, p2, i1, i2⟩ := h3 i (upN nd) (by rw [List.getElem?_map, hi']; rfl)
  exact ⟨b, off, c, v1, v2, by rw [List.length_map], hb, p1, p2, i1, i2⟩

end Go.Proofs.Ytjllpcnbahdmhaa
