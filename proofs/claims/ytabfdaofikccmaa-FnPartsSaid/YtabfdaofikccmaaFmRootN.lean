/- A good form in a book of its own. -/
import Derived.Test.YtabfdaofikccmaaFmFits
namespace Go.Proofs.Ytabfdaofikccmaa
open Go.RowKit
def bkF (f : List Nz) : List Nd := (addF [] (f.map downN)).1
theorem bkF_added (f : List Nz) (hs : StructZ f) : Added [] (f.map downN) (bkF f) (addF [] (f.map downN)).2 := addF_added [] book_nil (f.map downN) hs.up.2.under
theorem bkF_len (f : List Nz) : (bkF f).length ≤ f.length := by
  have := (addF_len [] (f.map downN)).2
  unfold bkF
  simpa using this
theorem downN_small {f : List Nz} (h : FitsZ f) : ∀ nd ∈ f.map downN, nd.1.length ≤ 90000 ∧ nd.2.length ≤ 90000 := fun nd hnd => by
  obtain ⟨n0, h0, rfl⟩ := List.mem_map.1 hnd
  have := h.2.2 n0 h0
  unfold downN downL
  simp
  omega
end Go.Proofs.Ytabfdaofikccmaa
