/- (*spec.l3Book).form: the places that are put in order, and the nodes that go out. -/
import Derived.Test.YtabfdaofikccmaaFmFormB
namespace Go.Proofs.Ytabfdaofikccmaa
set_option linter.unusedVariables false
set_option linter.unusedSimpArgs false
open Go.RowKit
theorem rowF_take {s n : Nat} {w : World} {g c : Nat} {l : List Nat} (h : w.ownsRow s 3 1 (.slice (some ⟨g, 0, none⟩) n c) n (l.map iv)) (k : Nat) (hk : k ≤ n) (W : World) (hW : Below w.heap.size w W) :
    SrcI W (.slice (some ⟨g, 0, none⟩) k c) k ((l.take k).map iv) := by
  have hl : (l.map iv).length = n * 1 := h.1
  rw [List.length_map] at hl
  have hlt := World.ownsRow.lt h _ rfl
  refine ⟨by rw [List.length_map, List.length_take]; omega, iv_one _, Or.inr ⟨_, _, rfl, fun j u hu => ?_⟩⟩
  rw [List.map_take] at hu
  have hj := get_lt hu
  rw [List.length_take] at hj
  rw [List.getElem?_take_of_lt (by omega)] at hu
  have := World.ownsRow.cells h rfl j u hu
  rw [Go.WideShapes.add_plain] at this ⊢
  exact (bcell hW g _ hlt.2).trans this
theorem rowF_drop {s n : Nat} {w : World} {g c : Nat} {l : List Nat} (h : w.ownsRow s 3 1 (.slice (some ⟨g, 0, none⟩) n c) n (l.map iv)) (k : Nat) (hk : k ≤ n) (W : World) (hW : Below w.heap.size w W) :
    SrcI W (.slice (if c = k then some ⟨g, 0, none⟩ else some ⟨g, k, none⟩) (n - k) (c - k)) (n - k) ((l.drop k).map iv) := by
  have hl : (l.map iv).length = n * 1 := h.1
  rw [List.length_map] at hl
  have hlt := World.ownsRow.lt h _ rfl
  have hcap := (World.ownsRow.caps h).1
  refine ⟨by rw [List.length_map, List.length_drop]; omega, iv_one _, Or.inr ?_⟩
  by_cases hck : c = k
  · rw [if_pos hck]
    refine ⟨_, _, rfl, fun j u hu => ?_⟩
    have := get_lt hu
    rw [List.length_map, List.length_drop] at this
    omega
  · rw [if_neg hck]
    refine ⟨_, _, rfl, fun j u hu => ?_⟩
    rw [List.map_drop, List.getElem?_drop] at hu
    have := World.ownsRow.cells h rfl _ u hu
    rw [Go.WideShapes.add_plain] at this ⊢
    rw [Nat.zero_add] at this
    exact (bcell hW g _ hlt.2).trans this
/-- what owns a list of numbers with one put in -/
theorem rowF_ins {s k n m : Nat} {w w3 : World} {v3 : Value} {l : List Nat} (hl : l.length = n) (hs : s ≤ w.heap.size) (hk : k ≤ n)
    (h3 : w3.ownsRow w.heap.size 3 1 v3 (0 + k + 1 + (n - k)) ([] ++ (l.take k).map iv ++ [iv m] ++ (l.drop k).map iv)) :
    w3.ownsRow s 3 1 v3 (0 + k + 1 + (n - k)) ((l.take k ++ m :: l.drop k).map iv) := by
  have e : [] ++ (l.take k).map iv ++ [iv m] ++ (l.drop k).map iv = (l.take k ++ m :: l.drop k).map iv := by simp
  rw [e] at h3
  exact World.ownsRow.mono h3 hs

end Go.Proofs.Ytabfdaofikccmaa
