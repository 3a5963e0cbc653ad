/- The moves that win: values, and what is kept of a contest. -/
import Derived.Test.YtjllpcnbahdmhaaOrNil
import Derived.Test.YtjllpcnbahdmhaaFmMark
namespace Go.Proofs.Ytjllpcnbahdmhaa
open Go.RowKit
set_option linter.unusedVariables false
set_option linter.unusedSimpArgs false

/-- the moves of the first game that win the difference, among the first of the options -/
def movesG (A B : List Nd) (Lo : List Nat) (l : Bool) (k : Nat) : List Int := ((List.range k).filter (fun i => !winF A B (Lo.getD i 0) (B.length - 1) (!l))).map (fun i : Nat => (i : Int))

theorem movesG_succ (A B : List Nd) (Lo : List Nat) (l : Bool) (k o : Nat) (r : Bool) (ho : Lo[k]? = some o) (hr : winF A B o (B.length - 1) (!l) = r) : movesG A B Lo l (k + 1) = movesG A B Lo l k ++ if r then [] else [(k : Int)] := by
  unfold movesG
  have e : Lo.getD k 0 = o := by rw [List.getD_eq_getElem?_getD, ho]; rfl
  rw [List.range_succ, List.filter_append, List.map_append]
  congr 1
  rw [List.filter_cons, List.filter_nil, e, hr]
  cases r <;> rfl

theorem movesG_len (A B : List Nd) (Lo : List Nat) (l : Bool) (k : Nat) : (movesG A B Lo l k).length ≤ k := by
  unfold movesG
  rw [List.length_map]
  exact Nat.le_trans (List.length_filter_le _ _) (by simp)

/-- the moves that win, among the first of the options -/
def movesK (A : List Nd) (Lo : List Nat) (l : Bool) (k : Nat) : List Int := ((List.range k).filter (fun i => !soloF A (Lo.getD i 0) (!l))).map (fun i : Nat => (i : Int))

theorem movesK_succ (A : List Nd) (Lo : List Nat) (l : Bool) (k o : Nat) (r : Bool) (ho : Lo[k]? = some o) (hr : soloF A o (!l) = r) : movesK A Lo l (k + 1) = movesK A Lo l k ++ if r then [] else [(k : Int)] := by
  unfold movesK
  have e : Lo.getD k 0 = o := by rw [List.getD_eq_getElem?_getD, ho]; rfl
  rw [List.range_succ, List.filter_append, List.map_append]
  congr 1
  rw [List.filter_cons, List.filter_nil, e, hr]
  cases r <;> rfl

theorem movesK_len (A : List Nd) (Lo : List Nat) (l : Bool) (k : Nat) : (movesK A Lo l k).length ≤ k := by
  unfold movesK
  rw [List.length_map]
  exact Nat.le_trans (List.length_filter_le _ _) (by simp)

theorem own_eqv {g q n c : Nat} (e : (Value.slice (some ⟨g, 0, none⟩) n c).ownBlock = some q) : g = q := by injection e

/-- what WinningMoves lists -/
def movesV (f : List Nz) (l : Bool) : List Int := if goodB f then movesK (f.map downN) (optsD (f.map downN) (f.length - 1) l) l (optsD (f.map downN) (f.length - 1) l).length else []

theorem movesV_good {f : List Nz} (h : goodB f = true) (l : Bool) : movesV f l = movesK (f.map downN) (optsD (f.map downN) (f.length - 1) l) l (optsD (f.map downN) (f.length - 1) l).length := by unfold movesV; rw [h]; rfl

theorem Ct.far {w w' : World} {base P g n cap N : Nat} {A B : List Nd} {va vb : Value} (h : Ct w base P g n cap A B va vb) (ho : Only w w' (fun b => N ≤ b)) (hP : P < N) (hg : g < N) (hN : N ≤ w.heap.size) : Ct w' base P g n cap A B va vb := by
  have hPb := block_of_cell h.c0
  have h1 := h.hg
  have hs : SameIn 0 base w w' := ho.sameIn (by omega) (fun b hb e => by omega)
  have hc : ∀ o, w'.cell? ⟨P, o, none⟩ = w.cell? ⟨P, o, none⟩ := fun o => ho.cell hPb (by omega)
  exact ⟨(hc 0).trans h.c0, (hc 1).trans h.c1, (hc 2).trans h.c2, h.na.keep hs, h.nb.keep hs, h.hg, Nat.lt_of_lt_of_le h.hgl ho.size, h.hP⟩

theorem Asked.far {base g n cap N : Nat} {A B : List Nd} {w w1 w2 : World} (h : Asked base g n cap A B w w1) (ho : Only w1 w2 (fun b => N ≤ b)) (hg : g < N) (hN : w.heap.size ≤ N) : Asked base g n cap A B w w2 := by
  obtain ⟨cs, k1, k2, k3⟩ := h
  exact ⟨cs, k1, own_only k2 ho (fun b e h2 => by have e2 := own_eqv e; omega), k3.trans ho (fun i h1 h2 => by omega)⟩

theorem Held.below {w w1 w2 : World} {P : Nat} {A B : List Nd} {va vb : Value} (h : Held w w1 P A B va vb) (hb : Below w1.heap.size w1 w2) : Held w w2 P A B va vb := by
  obtain ⟨gg, n, cap, cs, hc, hw, hrow, hb0⟩ := h
  exact ⟨gg, n, cap, cs, hc.below hb, hw, hrow.below hb, hb0.trans (hb.mono hb0.size)⟩

/-- the form's last node, cell by cell -/
theorem last_at {w : World} {lo hi : Nat} {va : Value} {f : List Nz} (hva : NodesZ w lo hi va f) (h1 : goodB f = true) :
    ∃ b off c v1 v2 n1 n2, va = .slice (some ⟨b, off, none⟩) f.length c ∧ b < hi ∧ w.cell? ⟨b, off + (f.length - 1) * 2, none⟩ = some v1 ∧ w.cell? ⟨b, off + (f.length - 1) * 2 + 1, none⟩ = some v2 ∧ IntsZ w lo hi v1 (upL n1) ∧ IntsZ w lo hi v2 (upL n2) ∧
      optsD (f.map downN) (f.length - 1) true = n1 ∧ optsD (f.map downN) (f.length - 1) false = n2 ∧ n1.length ≤ 24 ∧ n2.length ≤ 24 := by
  obtain ⟨hf1, hf2, _⟩ := (goodB_iff f).1 h1
  have e1 : (f.map downN).length = f.length := by simp
  have h0 := hf1.1
  obtain ⟨nd, hnd⟩ := lt_get (l := f.map downN) (i := f.length - 1) (by rw [e1]; omega)
  have hl : nd.1.length ≤ 24 ∧ nd.2.length ≤ 24 := by
    obtain ⟨x, hx, rfl⟩ := List.mem_map.1 (List.mem_of_getElem? hnd)
    have := hf1.2.2 x hx
    simpa [downN, downL] using this
  obtain ⟨b, off, c, v1, v2, e, hb, c1, c2, i1, i2⟩ := nodes_at (by rw [hf2.up.1]; exact hva) hnd
  rw [e1] at e
  exact ⟨b, off, c, v1, v2, nd.1, nd.2, e, hb, c1, c2, i1, i2, by unfold optsD; rw [nodeD_at hnd]; rfl, by unfold optsD; rw [nodeD_at hnd]; rfl, hl⟩

end Go.Proofs.Ytjllpcnbahdmhaa
