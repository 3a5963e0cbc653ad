/- A form that a law is given: nodes of two lists of whole numbers. -/
import Derived.Test.YtiacgcpcgabdoaaFmBase
import Derived.ProofKit
import Derived.OpenShut
import Derived.Lib.SmallJoins
import Derived.Deep.SlicePairs
namespace Go.Proofs.Ytiacgcpcgabdoaa
open Go.Joins Go.ChangeShapes Go.WideShapes Go.RowKit

theorem cellsForm : Try.prog.cellsOf 85 = 1 := by kernel_rfl
theorem cellsNode : Try.prog.cellsOf 131 = 2 := by kernel_rfl

theorem trod_ints {H : Type} {enc : TypeId × Value → H} {w : World} {base : Nat} {spare : Nat → Bool} {held : Bool} {fuel : Nat} {v : Value} {x : DataW H × List MemPlace}
    (h : DataW.trod enc Try.prog w base spare held fuel 40 [v] = some x) : ∃ l, IntsZ w 0 w.heap.size v l := by
  rcases open_ints Try.underlying40 Try.underlying3 (by kernel_rfl) h with ⟨hcs, _⟩ | ⟨a, len, cap, zs, hcs, _, hl, hm, hz, _, hcell, _⟩
  · injection hcs with hcs
    exact ⟨[], none, 0, hcs, by simp, fun j x hx => by simp at hx⟩
  · injection hcs with hcs
    have hle : len ≤ zs.length := by rw [hz]; split <;> omega
    have hm' : cap ≤ 9223372036854775807 := hm
    have hlen : (zs.take len).length = len := by rw [List.length_take]; omega
    refine ⟨zs.take len, some a, cap, by rw [hlen]; exact hcs, by omega, fun j x hx => ?_⟩
    have hj : j < len := by have := get_lt hx; omega
    obtain ⟨b, off, spot⟩ := a
    have hspot : spot = none := by simpa [Addr.add] using World.cell?_spot (hcell 0 (by omega))
    subst hspot
    have hc := hcell j (by omega)
    rw [Go.WideShapes.add_plain] at hc
    rw [List.getElem?_take_of_lt hj] at hx
    rw [List.getD_eq_getElem?_getD, hx] at hc
    exact ⟨b, off, rfl, Nat.zero_le _, block_of_cell hc, hc⟩

theorem trod_nodes {H : Type} {enc : TypeId × Value → H} {w : World} {base : Nat} {spare : Nat → Bool} {held : Bool} {fuel : Nat} {v : Value} {x : DataW H × List MemPlace}
    (h : DataW.trod enc Try.prog w base spare held fuel 83 [v] = some x) : ∃ f, NodesZ w 0 w.heap.size v f := by
  rcases Go.Deep.open_slice_pairs Try.underlying83 Try.underlying131 cellsNode rfl rfl (by kernel_rfl) (by kernel_rfl) h with ⟨hcs, _⟩ | ⟨a, len, cap, m, n, V0, V1, D0, D1, P0, P1, hcs, _, hl, hm, hmm, _, hx⟩
  · injection hcs with hcs
    exact ⟨[], none, 0, hcs, by simp, fun j x hx => by simp at hx⟩
  · injection hcs with hcs
    have hle : len ≤ m := by rw [hmm]; split <;> omega
    have hm' : cap ≤ 9223372036854775807 := hm
    have hw : ∀ i, i < len → ∃ nd : Nz, IntsZ w 0 w.heap.size (V0 i) nd.1 ∧ IntsZ w 0 w.heap.size (V1 i) nd.2 := fun i hi => by
      obtain ⟨_, _, t0, t1⟩ := hx i (by omega)
      obtain ⟨l0, h0⟩ := trod_ints t0
      obtain ⟨l1, h1⟩ := trod_ints t1
      exact ⟨(l0, l1), h0, h1⟩
    obtain ⟨F, hF⟩ := Go.Deep.choose_lt hw
    have hlen : ((List.range len).map F).length = len := by simp
    refine ⟨(List.range len).map F, some a, cap, by rw [hlen]; exact hcs, by omega, fun j nd hnd => ?_⟩
    have hj : j < len := by have := get_lt hnd; omega
    obtain ⟨b, off, spot⟩ := a
    have hspot : spot = none := by
      have := (hx 0 (by omega)).1
      simpa [Addr.add] using World.cell?_spot this
    subst hspot
    obtain ⟨c0, c1, _, _⟩ := hx j (by omega)
    rw [Go.WideShapes.add_plain] at c0 c1
    rw [List.getElem?_map, List.getElem?_range hj] at hnd
    injection hnd with hnd
    subst hnd
    exact ⟨b, off, V0 j, V1 j, rfl, Nat.zero_le _, block_of_cell c0, by rw [← c0], by rw [← c1, Nat.add_assoc], (hF j hj).1, (hF j hj).2⟩

set_option maxRecDepth 100000 in
theorem open_form {H : Type} {enc : TypeId × Value → H} {w : World} {base b0 : Nat} {spare : Nat → Bool} {held : Bool} {r : Reach} {v : Value} {d : DataW H} {p : List MemPlace}
    (hv : Value.okWide Try.prog w r b0 85 v) (h : DataW.Trod enc Try.prog w base spare held 85 v d p) :
    ∃ u f, v = .agg #[u] ∧ NodesZ w 0 w.heap.size u f := by
  obtain ⟨cs, rfl, hsz⟩ := okWide_struct Try.underlying85 hv
  obtain ⟨l⟩ := cs
  match l, hsz.trans cellsForm with
  | [u], _ =>
    obtain ⟨fuel, hf⟩ := h
    obtain ⟨xs, n, _, _, _, hlen, hg⟩ := DataW.trod_struct Try.underlying85 hf
    have h0 := hg 0 _ rfl
    have c : Try.prog.cellsOf 83 = 1 := by kernel_rfl
    simp [Value.cells, c] at h0
    match xs, hlen with
    | [y], _ =>
      obtain ⟨f, hf⟩ := trod_nodes (v := u) (x := y) (by simpa using h0)
      exact ⟨u, f, rfl, hf⟩

end Go.Proofs.Ytiacgcpcgabdoaa
