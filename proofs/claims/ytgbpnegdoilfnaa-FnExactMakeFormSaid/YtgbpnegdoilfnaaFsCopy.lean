/- Lists of forms wherever they lie: the laws' own functions of them. -/
import Derived.Test.YtgbpnegdoilfnaaFsLaw
namespace Go.Proofs.Ytgbpnegdoilfnaa
open Go.RowKit
set_option linter.unusedVariables false
set_option linter.unusedSimpArgs false

def CopyFS (W : World) (v : Value) (Fs : List (List Nz)) : Prop := ∃ lo hi, hi ≤ W.heap.size ∧ FormsZ W lo hi v Fs
theorem CopyFS.below {W W' : World} {v : Value} {Fs : List (List Nz)} (h : CopyFS W v Fs) (hb : Below W.heap.size W W') : CopyFS W' v Fs := by
  obtain ⟨lo, hi, hh, h⟩ := h
  exact ⟨lo, hi, Nat.le_trans hh hb.size, h.below hb hh⟩
theorem OwnFS.copyFS {w : World} {base : Nat} {v : Value} {ps : List (Value × List (Value × Value))} {Fs : List (List Nz)} (h : OwnFS w base v ps Fs) : CopyFS w v Fs := ⟨_, _, Nat.le_refl _, h.formsZ⟩
theorem OwnF.copyO {w : World} {base : Nat} {v : Value} {vs : List (Value × Value)} {f : List Nz} (h : OwnF w base v vs f) : CopyOf w v f := ⟨_, _, Nat.le_refl _, h.nodesZ⟩

theorem szFormS_copy (v : Value) (Fs : List (List Nz)) (w : World) (m : Int) (h0 : 0 ≤ m) (h1 : m ≤ 1048576) (hv : CopyFS w v Fs) :
    Calls Try.prog 18 #[v, .int .i64 m] w fun e w' => e = .returned (.int .i64 (leftOf m (tzFs Fs))) ∧ Below w.heap.size w w' := by
  obtain ⟨lo, hi, hh, h⟩ := hv
  exact szFormS_calls v Fs w lo hi hh m h0 h1 h
theorem toFormS_copy (v : Value) (Fs : List (List Nz)) (w : World) (hv : CopyFS w v Fs) (hl : tzFs Fs ≤ 1048576) :
    Calls Try.prog 20 #[v] w fun e w' => ∃ g ps, e = .returned (.slice (some ⟨g, 0, none⟩) Fs.length Fs.length) ∧ OwnFS w' w.heap.size (.slice (some ⟨g, 0, none⟩) Fs.length Fs.length) ps Fs ∧ Below w.heap.size w w' := by
  obtain ⟨lo, hi, hh, h⟩ := hv
  exact toFormS_own v Fs w lo hi hh h hl
theorem eqFormS_copy (v v' : Value) (Fs : List (List Nz)) (w : World) (h : CopyFS w v Fs) (h' : CopyFS w v' Fs) :
    Calls Try.prog 22 #[v, v'] w fun e w' => e = .returned (.bool true) ∧ Below w.heap.size w w' := by
  obtain ⟨lo, hi, hh, h⟩ := h
  obtain ⟨lo', hi', hh', h'⟩ := h'
  exact eqFormS_same v v' Fs w lo hi lo' hi' hh hh' h h'

theorem szFS_le (Fs : List (List Nz)) : (szFS Fs : Int) ≤ (tzFs Fs : Nat) := by
  have : szFS Fs ≤ tzFs Fs := by
    unfold szFS tzFs
    induction Fs with
    | nil => simp
    | cons f Fs ih =>
      simp only [List.map_cons, List.sum_cons, List.length_cons]
      have : (f.map szN).sum ≤ szNs f := by unfold szNs; omega
      omega
  omega

/-- a form read far from what is written -/
theorem NodesZ.only {w w' : World} {lo hi : Nat} {v : Value} {f : List Nz} {F : Nat → Prop} (h : NodesZ w lo hi v f) (hh : hi ≤ w.heap.size) (ho : Only w w' F) (hn : ∀ b, lo ≤ b → b < hi → ¬ F b) : NodesZ w' lo hi v f := h.keep (fun b o h1 h2 => ho.cell (by omega) (hn b h1 h2))

end Go.Proofs.Ytgbpnegdoilfnaa
