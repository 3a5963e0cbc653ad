/- A list of forms that a law is given. -/
import Derived.Test.YtiacgcpcgabdoaaFmArg
import Derived.Test.YtiacgcpcgabdoaaFmFs
import Derived.Deep.Slices
namespace Go.Proofs.Ytiacgcpcgabdoaa
set_option linter.unusedVariables false
set_option linter.unusedSimpArgs false
open Go.Joins Go.ChangeShapes Go.WideShapes Go.RowKit

theorem trod_form1 {H : Type} {enc : TypeId × Value → H} {w : World} {base : Nat} {spare : Nat → Bool} {held : Bool} {fuel : Nat} {u : Value} {x : DataW H × List MemPlace}
    (h : DataW.trod enc Try.prog w base spare held fuel 85 [u] = some x) : ∃ f, NodesZ w 0 w.heap.size u f := by
  obtain ⟨xs, n, _, _, _, hlen, hg⟩ := DataW.trod_struct Try.underlying85 h
  have h0 := hg 0 _ rfl
  have c : Try.prog.cellsOf 83 = 1 := by kernel_rfl
  simp [c] at h0
  match xs, hlen with
  | [y], _ =>
    obtain ⟨f, hf⟩ := trod_nodes (v := u) (x := y) (by simpa using h0)
    exact ⟨f, hf⟩

theorem trod_forms {H : Type} {enc : TypeId × Value → H} {w : World} {base : Nat} {spare : Nat → Bool} {held : Bool} {fuel : Nat} {v : Value} {x : DataW H × List MemPlace}
    (h : DataW.trod enc Try.prog w base spare held fuel 44 [v] = some x) : ∃ Fs, FormsZ w 0 w.heap.size v Fs := by
  rcases Go.Deep.open_slice1 Try.underlying44 cellsForm h with ⟨hcs, _⟩ | ⟨a, len, cap, m, n, V, D, Pl, hcs, _, hl, hm, hmm, _, hx⟩
  · injection hcs with hcs
    rw [hcs]
    exact ⟨[], FormsZ.nil _ _ _⟩
  · injection hcs with hcs
    have hle : len ≤ m := by rw [hmm]; split <;> omega
    have hm' : cap ≤ 9223372036854775807 := hm
    have hw : ∀ i, i < len → ∃ f : List Nz, NodesZ w 0 w.heap.size (V i) f := fun i hi => trod_form1 (hx i (by omega)).2
    obtain ⟨F, hF⟩ := Go.Deep.choose_lt hw
    have hlen : ((List.range len).map F).length = len := by simp
    refine ⟨(List.range len).map F, some a, cap, by rw [hlen]; exact hcs, by omega, fun j f hf => ?_⟩
    have hj : j < len := by have := get_lt hf; omega
    obtain ⟨b, off, spot⟩ := a
    have hspot : spot = none := by
      have := (hx 0 (by omega)).1
      simpa [Addr.add] using World.cell?_spot this
    subst hspot
    obtain ⟨c0, _⟩ := hx j (by omega)
    rw [Go.WideShapes.add_plain] at c0
    rw [List.getElem?_map, List.getElem?_range hj] at hf
    injection hf with hf
    subst hf
    exact ⟨b, off, V j, rfl, Nat.zero_le _, block_of_cell c0, c0, hF j hj⟩

set_option maxRecDepth 100000 in
theorem open_forms {H : Type} {enc : TypeId × Value → H} {w : World} {base b0 : Nat} {spare : Nat → Bool} {held : Bool} {r : Reach} {v : Value} {d : DataW H} {p : List MemPlace}
    (hv : Value.okWide Try.prog w r b0 44 v) (h : DataW.Trod enc Try.prog w base spare held 44 v d p) : ∃ Fs, FormsZ w 0 w.heap.size v Fs := by
  obtain ⟨ao, len, cap, rfl⟩ := okWide_slice Try.underlying44 hv
  obtain ⟨fuel, hf⟩ := h
  exact trod_forms (x := (d, p)) (by simpa [Value.cells] using hf)

end Go.Proofs.Ytiacgcpcgabdoaa
