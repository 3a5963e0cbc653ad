/- A good form in a book of its own. -/
import Derived.Test.YtabfdaofikccmaaGreatFmFits
namespace Go.Proofs.YtabfdaofikccmaaGreat
open Go.RowKit

def bkF (f : List Nz) : List Nd := (addF [] (f.map downN)).1
def rtF (f : List Nz) : Nat := (addF [] (f.map downN)).2.getD ((f.map downN).length - 1) 0

theorem bkF_added (f : List Nz) (hs : StructZ f) : Added [] (f.map downN) (bkF f) (addF [] (f.map downN)).2 := addF_added [] book_nil (f.map downN) hs.up.2.under

theorem rtF_lt (f : List Nz) (hs : StructZ f) (h0 : 0 < f.length) : rtF f < (bkF f).length := by
  have ha := bkF_added f hs
  have hl2 : (f.map downN).length = f.length := by simp
  obtain ⟨nl, hnl⟩ := lt_get (l := f.map downN) (i := (f.map downN).length - 1) (by omega)
  exact get_lt (ha.node _ nl hnl)

theorem bkF_len (f : List Nz) : (bkF f).length ≤ f.length := by
  have := (addF_len [] (f.map downN)).2
  unfold bkF
  simpa using this

theorem downN_small {f : List Nz} (h : FitsZ f) : ∀ nd ∈ f.map downN, nd.1.length ≤ 90000 ∧ nd.2.length ≤ 90000 := fun nd hnd => by
  obtain ⟨n0, h0, rfl⟩ := List.mem_map.1 hnd
  have := h.2.2 n0 h0
  unfold downN downL
  simp
  omega

/-- the birthday of the game -/
theorem born_rtF (f : List Nz) (hs : StructZ f) (h0 : 0 < f.length) : bOf (bkF f) (rtF f) = bOf (f.map downN) (f.length - 1) := by
  have ha := bkF_added f hs
  have hl2 : (f.map downN).length = f.length := by simp
  have := ha.births hs.up.2.under (f.length - 1) (by omega)
  rw [← this]
  unfold rtF
  rw [hl2]

theorem rootNil_calls (v : Value) (f : List Nz) (w : World) (lo hi : Nat) (hh : hi ≤ w.heap.size) (hv : NodesZ w lo hi v f) (hf : FitsZ f) (hs : StructZ f) (W : World)
    (hW : Below (w.alloc (.cells #[.slice none 0 0, .slice none 0 0] 105)).heap.size (w.alloc (.cells #[.slice none 0 0, .slice none 0 0] 105)) W) :
    Calls Tryz.prog 123 #[.pointer (some ⟨w.heap.size, 0, none⟩), .agg #[v]] W fun e w' => e = .returned (.int .i64 (rtF f : Nat)) ∧
      (∃ vn vb vs, Bk w.heap.size w' w.heap.size (bkF f) (bornsOf (bkF f)) vn vb vs (fun _ => False)) ∧ Below w.heap.size w w' := by
  have hup := hs.up
  have hbx : Below w.heap.size w (w.alloc (.cells #[.slice none 0 0, .slice none 0 0] 105)) := (Below.refl _ _).alloc (Nat.le_refl _) _
  have hbW := hbx.trans (hW.mono (by simp))
  have hvW : NodesZ W lo hi v ((f.map downN).map upN) := by rw [hup.1]; exact hv.below hbW hh
  have hl := hf.1
  have hl2 := hf.2.1
  refine (root_calls w.heap.size w.heap.size [] (.slice none 0 0) (.slice none 0 0) [] v (f.map downN) W lo hi hh ((bk_nil w).below hW) book_nil hvW hup.2.under (by simpa using hl) (by simp; omega) (downN_small hf)).mono ?_
  rintro e w' ⟨rfl, vn, vb, vs, hk, ho, _⟩
  refine ⟨rfl, ⟨vn, vb, vs, hk⟩, hbW.trans (ho.below hbW.size (fun g hg => ?_))⟩
  rcases hg with rfl | hg | hg
  · exact Nat.le_refl _
  · simp [Value.ownBlock] at hg
  · simp [Value.ownBlock] at hg

end Go.Proofs.YtabfdaofikccmaaGreat
