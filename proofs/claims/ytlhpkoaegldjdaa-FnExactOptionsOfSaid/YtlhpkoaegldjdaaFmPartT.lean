/- The program's PartAt. -/
import Derived.Test.YtlhpkoaegldjdaaFmPartI
import Derived.Test.YtlhpkoaegldjdaaFmMoved
import Derived.Test.YtlhpkoaegldjdaaFmGoodI
namespace Go.Proofs.Ytlhpkoaegldjdaa
open Go.RowKit
set_option linter.unusedVariables false
set_option linter.unusedSimpArgs false

theorem goodI_resP (v : Value) (f : List Nz) (r : Bool) (hr : Hid (goodB f = r)) (w : World) (lo hi : Nat) (hh : hi ≤ w.heap.size) (hv : NodesZ w lo hi v f) :
    Calls Try.prog 64 #[.agg #[v]] w fun e w' => e = .returned (.bool r) ∧ Below w.heap.size w w' := by
  rw [← hr.out]
  exact goodI_calls v f w lo hi hh hv

theorem movedC : MovedC := movedI_calls

/-- is there a part? -/
def partB (f : List Nz) (i : Int) : Bool := goodB f && (decide (0 ≤ i) && decide (i < f.length))
/-- the part, or nothing -/
def partV (f : List Nz) (i : Int) : List Nz := if partB f i then (partI (f.map downN) i.toNat).map upN else []

theorem partV_no {f : List Nz} {i : Int} (h : partB f i = false) : partV f i = [] := by unfold partV; rw [h]; rfl
theorem partV_yes {f : List Nz} {i : Nat} (h : partB f (i : Int) = true) : partV f (i : Int) = (partI (f.map downN) i).map upN := by unfold partV; rw [h]; rfl

theorem partB_good {f : List Nz} (h : goodB f = true) (i : Nat) (hi : i < f.length) : partB f (i : Int) = true := by
  unfold partB
  rw [h]
  simp [hi]

set_option maxHeartbeats 1000000 in
theorem partAtI_calls (va : Value) (f g : List Nz) (i : Int) (ok : Bool) (hok : Hid (partB f i = ok)) (hg : Hid (partV f i = g)) (w : World) (lo hi : Nat) (hh : hi ≤ w.heap.size) (hva : NodesZ w lo hi va f) :
    Calls Try.prog 32 #[.agg #[va], .int .i64 i] w fun e w' => ∃ a c vs, e = .returned (.tuple #[.agg #[.slice a g.length c], .bool ok]) ∧ OwnF w' w.heap.size (.slice a g.length c) vs g ∧ Below w.heap.size w w' := by
  obtain ⟨r, hr⟩ : ∃ r, goodB f = r := ⟨_, rfl⟩
  have HB0 := Lib.hid fun o o' => show Below w.heap.size w ((w.alloc o).alloc o') from ((Below.refl _ _).alloc (Nat.le_refl _) _).alloc (by simp) _
  have CG := Lib.hid fun (W : World) (hW : Below w.heap.size w W) => goodI_resP va f r (Lib.hid hr) W lo hi (Nat.le_trans hh hW.size) (hva.below hW hh)
  have HVA := Lib.hid fun (W : World) (hW : Below w.heap.size w W) => hva.below hW hh
  obtain ⟨ao, c0, rfl⟩ : ∃ ao c, va = .slice ao f.length c := by obtain ⟨ao, c, e, _⟩ := hva; exact ⟨ao, c, e⟩
  have HRR := Lib.hid hr
  clear hva hr
  go_enter Try.func32, Try.ntmps32
  go_wp2_with fail
  refine (CG.out _ (HB0.out _ _)).mono ?_
  rintro e w4 ⟨rfl, hb4⟩
  have k0 : w4.cell? ⟨w.heap.size, 0, none⟩ = some (.slice ao f.length c0) := (bcell hb4 _ _ (by simp; omega)).trans (by go_simp)
  obtain ⟨d0, z0⟩ : BoxAt w4 (w.heap.size + 1) (.slice none 0 0) := BoxAt.below ⟨by go_simp, by go_simp⟩ hb4
  have HB4 := Lib.hid (Below.trans (HB0.out _ _) (hb4.mono (by simp; omega)))
  have HB4s : Hid (Below w.heap.size w (w4.setCell ⟨w.heap.size + 1, 0, none⟩ (.slice none 0 0))) := Lib.hid (HB4.out.setCell (by show w.heap.size ≤ w.heap.size + 1; omega) _)
  have hcr := World.cell?_setCell_same w4 ⟨w.heap.size + 1, 0, none⟩ (.slice none 0 0) d0
  clear hb4 CG
  have HNO : Hid (ok = false → g = []) := Lib.hid (fun h => by rw [← hg.out, partV_no (by rw [hok.out]; exact h)])
  have HF0 : ∀ W base, OwnF W base (.slice none ([] : List Nz).length 0) [] [] := fun W base => OwnF.nil W base
  cases r with
  | false =>
    obtain rfl : ok = false := by rw [← hok.out]; unfold partB; rw [HRR.out]; rfl
    obtain rfl : g = [] := HNO.out rfl
    go_wp2_with fail
    exact bodyPost_ret (v := .tuple #[.agg #[.slice none 0 0], .bool false]) (by simp [results, Try.results32, go_sem, hcr]) rfl ⟨none, 0, [], rfl, HF0 _ _, HB4s.out⟩
  | true =>
    by_cases h1 : i < 0
    · obtain rfl : ok = false := by rw [← hok.out]; unfold partB; rw [HRR.out, decide_eq_false (by omega)]; rfl
      obtain rfl : g = [] := HNO.out rfl
      go_wp2_with fail
      exact bodyPost_ret (v := .tuple #[.agg #[.slice none 0 0], .bool false]) (by simp [results, Try.results32, go_sem, hcr]) rfl ⟨none, 0, [], rfl, HF0 _ _, HB4s.out⟩
    · by_cases h2 : (f.length : Int) ≤ i
      · obtain rfl : ok = false := by rw [← hok.out]; unfold partB; rw [HRR.out, decide_eq_false (show ¬ i < (f.length : Int) by omega)]; simp
        obtain rfl : g = [] := HNO.out rfl
        go_wp2_with fail
        exact bodyPost_ret (v := .tuple #[.agg #[.slice none 0 0], .bool false]) (by simp [results, Try.results32, go_sem, hcr]) rfl ⟨none, 0, [], rfl, HF0 _ _, HB4s.out⟩
      · obtain ⟨n, rfl⟩ : ∃ n : Nat, i = (n : Int) := ⟨i.toNat, by omega⟩
        have hnl : n < f.length := by omega
        have hpb := partB_good HRR.out n hnl
        obtain rfl : ok = true := by rw [← hok.out]; exact hpb
        have hgv : (partI (f.map downN) n).map upN = g := by rw [← hg.out, partV_yes hpb]
        obtain ⟨hf1, hf2, _⟩ := (goodB_iff f).1 HRR.out
        have e1 : (f.map downN).length = f.length := by simp
        have C := Lib.hid fun (W : World) (hW : Below w.heap.size w W) => partOf_calls movedC (.slice ao f.length c0) (f.map downN) n W lo hi (Nat.le_trans hh hW.size) (by rw [hf2.up.1]; exact HVA.out W hW) hf2.up.2.under (by rw [e1]; exact hnl) (by rw [e1]; exact hf1.2.1) (fun nd hnd => by
          obtain ⟨x, hx, rfl⟩ := List.mem_map.1 hnd
          have := hf1.2.2 x hx
          simpa [downN, downL] using this)
        have hgl : (partI (f.map downN) n).length = g.length := by rw [← hgv]; simp
        rw [hgv, hgl] at C
        clear hf1 hf2 e1 hgv hgl hpb HRR HNO hok hg
        go_wp2_with fail
        refine (C.out _ HB4.out).mono ?_
        rintro e w5 ⟨a, c, vs, rfl, ho, hb5⟩
        obtain ⟨d5, z5⟩ : BoxAt w5 (w.heap.size + 1) (.slice none 0 0) := BoxAt.below ⟨d0, z0⟩ hb5
        have hlt := block_of_cell d0
        have HO : Hid (OwnF (w5.setCell ⟨w.heap.size + 1, 0, none⟩ (.slice a g.length c)) w.heap.size (.slice a g.length c) vs g) := Lib.hid ((ho.setCell (by exact hlt)).mono HB4.out.size)
        have HB5 : Hid (Below w.heap.size w (w5.setCell ⟨w.heap.size + 1, 0, none⟩ (.slice a g.length c))) := Lib.hid ((HB4.out.trans (hb5.mono HB4.out.size)).setCell (by show w.heap.size ≤ w.heap.size + 1; omega) _)
        have hcr5 := World.cell?_setCell_same w5 ⟨w.heap.size + 1, 0, none⟩ (.slice a g.length c) d5
        clear hb5 ho hcr d0 z0 hlt
        go_wp2_with fail
        exact bodyPost_ret (v := .tuple #[.agg #[.slice a g.length c], .bool true]) (by simp [results, Try.results32, go_sem, hcr5]) rfl ⟨a, c, vs, rfl, HO.out, HB5.out⟩

end Go.Proofs.Ytlhpkoaegldjdaa
