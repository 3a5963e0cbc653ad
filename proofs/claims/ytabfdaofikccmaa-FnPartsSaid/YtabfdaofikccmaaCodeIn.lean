/- A slice of bytes that came in, as the cursor reads it. -/
import Derived.Test.YtabfdaofikccmaaCur
import Derived.ProofKit
import Derived.OpenShut
namespace Go.Proofs.Ytabfdaofikccmaa
open Go.RowKit
theorem codeIn_open {a : Addr} {len cap : Nat} {zs : List Int} {w : World} (hl : len ≤ cap) (hz : zs.length = cap)
    (hcell : ∀ i, i < zs.length → w.cell? (a.add i) = some (.int .u8 (zs.getD i 0))) (hw : ∀ z ∈ zs, (Lit.int .u8 z).wf = true) : CodeIn w (.slice (some a) len cap) len := by
  by_cases h0 : len = 0
  · subst h0
    exact Or.inl ⟨_, _, rfl, rfl⟩
  · obtain ⟨b, off, spot⟩ := a
    have hspot : spot = none := by simpa [Addr.add] using World.cell?_spot (hcell 0 (by omega))
    subst hspot
    refine Or.inr ⟨b, off, cap, rfl, by omega, fun j hj => ?_⟩
    have hc := hcell j (by omega)
    rw [Go.WideShapes.add_plain] at hc
    have hm : zs.getD j 0 ∈ zs := by
      rw [List.getD_eq_getElem?_getD, List.getElem?_eq_getElem (by omega)]
      exact List.getElem_mem _
    have hb := bounds_u8 (hw _ hm)
    refine ⟨(zs.getD j 0).toNat, by omega, ?_⟩
    rw [hc]
    congr 2
    omega

end Go.Proofs.Ytabfdaofikccmaa
