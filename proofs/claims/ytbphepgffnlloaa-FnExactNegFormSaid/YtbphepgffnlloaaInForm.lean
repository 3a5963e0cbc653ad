/- impl.formOf: the form of nodes. -/
import Derived.Test.YtbphepgffnlloaaInOrder
import Derived.Test.YtbphepgffnlloaaInOf
namespace Go.Proofs.Ytbphepgffnlloaa
section
open Go.RowKit
set_option linter.unusedVariables false
set_option linter.unusedSimpArgs false

theorem goodI_res (v : Value) (f : List Nz) (r : Bool) (hr : Hid (goodB f = r)) (w : World) (lo hi : Nat) (hh : hi ≤ w.heap.size) (hv : NodesZ w lo hi v f) :
    Calls Try.prog 72 #[.agg #[v]] w fun e w' => e = .returned (.bool r) ∧ Below w.heap.size w w' := by
  rw [← hr.out]
  exact goodI_calls v f w lo hi hh hv

set_option maxHeartbeats 1000000 in
theorem formOf_calls (v : Value) (P : List Nd) (f : List Nz) (ok : Bool) (w : World) (lo hi : Nat) (hh : hi ≤ w.heap.size) (hv : NodesZ w lo hi v (P.map upN)) (hu : Under P) (h0 : 0 < P.length) (hr : ∀ k, k < P.length → Reached P (P.length - 1) k) (hl : P.length ≤ 100000) (hn : ∀ nd ∈ P, nd.1.length ≤ 1000 ∧ nd.2.length ≤ 1000)
    (hok : Hid (fitsN (formM P) = ok)) (hf : Hid (outV P = f)) :
    Calls Try.prog 46 #[v] w fun e w' => ∃ a c vs, e = .returned (.tuple #[.agg #[.slice a f.length c], .bool ok]) ∧ OwnF w' w.heap.size (.slice a f.length c) vs f ∧ Below w.heap.size w w' := by
  have HB0 := Lib.hid fun o => show Below w.heap.size w (w.alloc o) from (Below.refl _ _).alloc (Nat.le_refl _) _
  have CO := Lib.hid fun (W : World) (hW : Below w.heap.size w W) => inOrder_calls v P W lo hi (Nat.le_trans hh hW.size) (hv.below hW hh) hu hl hn
  have HG := Lib.hid fun (out : List Nd) (pl : Nat → Nat) (h : Canon P (bOf P) (fun _ => True) out pl) => order_is hu h0 hr h
  have HGF := Lib.hid (good_fits P hu h0 hr)
  have hvs : ∃ ao n c, v = .slice ao n c := by obtain ⟨ao, c, e, _⟩ := hv; exact ⟨ao, _, c, e⟩
  obtain ⟨ao, nv, cv, rfl⟩ := hvs
  clear hv hu h0 hr hl hn
  go_enter Try.func46, Try.ntmps46
  go_wp2_with fail
  refine (CO.out _ (HB0.out _)).mono ?_
  rintro e w1 ⟨a, c, vs, gq, out, Q, rfl, hof, hoq, hcan, hb1⟩
  have hz0 : (w.alloc (.cells #[.slice none 0 0] 26)).heap.size = w.heap.size + 1 := by simp
  rw [hz0] at hof hb1
  obtain rfl := HG.out _ _ hcan
  have HB1 := Lib.hid ((HB0.out _).trans (hb1.mono (by omega)))
  have hbx : BoxAt w1 w.heap.size (.slice none 0 0) := ⟨(hb1.cell (p := ⟨w.heap.size, 0, none⟩) (by show w.heap.size < w.heap.size + 1; omega)).trans (by go_simp), (hb1.frozen (p := ⟨w.heap.size, 0, none⟩) (by show w.heap.size < w.heap.size + 1; omega)).trans (by go_simp)⟩
  have hs1 := hb1.size
  have HF1 := Lib.hid hof
  clear hof hoq hcan hb1 CO HG
  obtain ⟨n, hN⟩ : ∃ n, (formM P).length = n := ⟨_, rfl⟩
  rw [hN] at HF1 ⊢
  have hba := HB0.out
  have hbal : Below w1.heap.size w1 (w1.alloc (.cells #[.slice a n c] 26)) := (Below.refl _ _).alloc (Nat.le_refl _) _
  have HF2 := Lib.hid (HF1.out.below hbal)
  have CG := Lib.hid (goodI_res (.slice a n c) ((formM P).map upN) ok (Lib.hid (HGF.out.trans hok.out)) (w1.alloc (.cells #[.slice a n c] 26)) (w.heap.size + 1) (w1.alloc (.cells #[.slice a n c] 26)).heap.size (Nat.le_refl _) HF2.out.nodesZ)
  have HN := Lib.hid hN
  clear hN
  go_wp2_with fail
  refine CG.out.mono ?_
  rintro e w2 ⟨rfl, hb2⟩
  have hb12 : Below w1.heap.size w1 w2 := hbal.trans (hb2.mono (by simp))
  have hbx2 := hbx.below hb12
  have k1 : w2.cell? ⟨w1.heap.size, 0, none⟩ = some (.slice a n c) := (bcell hb2 _ _ (by simp)).trans (by go_simp)
  have HF3 := Lib.hid (HF1.out.below hb12)
  have HB2 := Lib.hid (HB1.out.trans (hb12.mono (by omega)))
  have hc0 := hbx2.1
  have hz02 := hbx2.2
  have hsz2 := block_of_cell hbx2.1
  clear hb2 hb12 hbal hbx CG HB1 HF1 HF2
  cases ok with
  | true =>
    have HFe : Hid ((formM P).map upN = f) := Lib.hid (by rw [← hf.out, outV_yes hok.out])
    have HL : Hid (n = f.length) := Lib.hid (by rw [← HFe.out, List.length_map, HN.out])
    have O4 : Hid (OwnF (w2.setCell ⟨w.heap.size, 0, none⟩ (.slice a n c)) w.heap.size (.slice a n c) vs f) := Lib.hid (by
      rw [← HFe.out]
      exact (HF3.out.setCell (by show w.heap.size < w.heap.size + 1; omega)).mono (by omega))
    have B4 := Lib.hid (HB2.out.setCell (p := ⟨w.heap.size, 0, none⟩) (Nat.le_refl _) (.slice a n c))
    have hcr := World.cell?_setCell_same w2 ⟨w.heap.size, 0, none⟩ (.slice a n c) hc0
    clear HF3 HB2 hbx2
    go_wp2_with fail
    refine bodyPost_ret (v := .tuple #[.agg #[.slice a n c], .bool true]) (by simp [results, Try.results46, go_sem, hcr]) rfl ⟨a, c, vs, ?_, ?_, B4.out⟩
    · rw [← HL.out]
    · rw [← HL.out]; exact O4.out
  | false =>
    obtain rfl : f = [] := by rw [← hf.out, outV_no hok.out]
    have B4 := Lib.hid (HB2.out.setCell (p := ⟨w.heap.size, 0, none⟩) (Nat.le_refl _) (.slice none 0 0))
    have hcr := World.cell?_setCell_same w2 ⟨w.heap.size, 0, none⟩ (.slice none 0 0) hc0
    clear HF3 HB2 hbx2
    go_wp2_with fail
    exact bodyPost_ret (v := .tuple #[.agg #[.slice none 0 0], .bool false]) (by simp [results, Try.results46, go_sem, hcr]) rfl ⟨none, 0, [], rfl, OwnF.nil _ _, B4.out⟩
end

section
open Go.RowKit
set_option linter.unusedVariables false
set_option linter.unusedSimpArgs false

/-- a list of numbers that lies apart from a block -/
def IntsX (w : World) (g : Nat) (v : Value) (l : List Int) : Prop := ∃ lo hi, hi ≤ w.heap.size ∧ (g < lo ∨ hi ≤ g) ∧ IntsZ w lo hi v l

theorem IntsX.below {w w' : World} {g : Nat} {v : Value} {l : List Int} (h : IntsX w g v l) (hb : Below w.heap.size w w') : IntsX w' g v l := by
  obtain ⟨lo, hi, h1, h2, h3⟩ := h
  exact ⟨lo, hi, Nat.le_trans h1 hb.size, h2, h3.below hb h1⟩
theorem IntsX.only {w w' : World} {g : Nat} {v : Value} {l : List Int} (h : IntsX w g v l) (ho : Only w w' (fun b => b = g)) : IntsX w' g v l := by
  obtain ⟨lo, hi, h1, h2, h3⟩ := h
  exact ⟨lo, hi, Nat.le_trans h1 ho.size, h2, h3.keep (fun b o e1 e2 => ho.cell (by omega) (by omega))⟩
theorem IntsX.ints {w : World} {g : Nat} {v : Value} {l : List Int} (h : IntsX w g v l) : IntsZ w 0 w.heap.size v l := by
  obtain ⟨lo, hi, h1, h2, h3⟩ := h
  exact h3.wide (Nat.zero_le _) h1

structure RowZ (w : World) (base g n : Nat) (vs : List (Value × Value)) (F : List Nz) (k : Nat) : Prop where
  row : w.ownsRow base 63 2 (.slice (some ⟨g, 0, none⟩) n n) n (rowN2 vs)
  len : vs.length = n
  part : ∀ (j : Nat) (nd : Nz), j < k → F[j]? = some nd → ∃ p, vs[j]? = some p ∧ IntsX w g p.1 nd.1 ∧ IntsX w g p.2 nd.2

theorem RowZ.below {w w' : World} {base g n : Nat} {vs : List (Value × Value)} {F : List Nz} {k : Nat} (h : RowZ w base g n vs F k) (hb : Below w.heap.size w w') : RowZ w' base g n vs F k :=
  ⟨own_only h.row (Only.of_below (F := fun _ => False) hb) (fun _ _ => id), h.len, fun j nd hj hf => by
    obtain ⟨p, h1, h2, h3⟩ := h.part j nd hj hf
    exact ⟨p, h1, h2.below hb, h3.below hb⟩⟩

theorem RowZ.made {w : World} {base g n : Nat} {F : List Nz} (h : w.ownsRow base 63 2 (.slice (some ⟨g, 0, none⟩) n n) n (madeCells (Value.agg #[.slice none 0 0, .slice none 0 0]).cells (n * 2)).toList) : RowZ w base g n (List.replicate n nilP) F 0 :=
  ⟨by rw [← rowN2_nils]; exact h, by simp, fun j nd hj _ => by omega⟩

theorem RowZ.set {w : World} {base g n : Nat} {vs : List (Value × Value)} {F : List Nz} {k : Nat} {nd : Nz} {p : Value × Value} (h : RowZ w base g n vs F k) (hk : k < n) (hf : F[k]? = some nd) (h1 : IntsX w g p.1 nd.1) (h2 : IntsX w g p.2 nd.2) :
    RowZ ((w.setCell ⟨g, k * 2, none⟩ p.1).setCell ⟨g, k * 2 + 1, none⟩ p.2) base g n (vs.set k p) F (k + 1) := by
  have s1 := World.ownsRow.stored h.row (k * 2) p.1
  have s2 := World.ownsRow.stored s1.1 (k * 2 + 1) p.2
  rw [rowN2_set] at s2
  have ho : Only w ((w.setCell ⟨g, k * 2, none⟩ p.1).setCell ⟨g, k * 2 + 1, none⟩ p.2) (fun b => b = g) := (Only.of_set (F := fun b => b = g) (p := ⟨g, k * 2, none⟩) p.1 rfl).trans (Only.of_set (F := fun b => b = g) (p := ⟨g, k * 2 + 1, none⟩) p.2 rfl) (fun _ _ e => e)
  refine ⟨s2.1, by rw [List.length_set]; exact h.len, fun j n0 hj hf0 => ?_⟩
  by_cases e : j = k
  · subst e
    rw [hf] at hf0
    injection hf0 with hf0
    subst hf0
    exact ⟨p, by rw [List.getElem?_set_self (by rw [h.len]; exact hk)], h1.only ho, h2.only ho⟩
  · obtain ⟨q, q1, q2, q3⟩ := h.part j n0 (by omega) hf0
    exact ⟨q, by rw [List.getElem?_set_ne (fun h => e h.symm)]; exact q1, q2.only ho, q3.only ho⟩

theorem RowZ.cells {w : World} {base g n : Nat} {vs : List (Value × Value)} {F : List Nz} {k : Nat} (h : RowZ w base g n vs F k) {j : Nat} (hj : j < n) :
    ∃ p, vs[j]? = some p ∧ w.cell? ⟨g, j * 2, none⟩ = some p.1 ∧ w.cell? ⟨g, j * 2 + 1, none⟩ = some p.2 ∧ w.frozen? ⟨g, j * 2, none⟩ = false ∧ w.frozen? ⟨g, j * 2 + 1, none⟩ = false := by
  obtain ⟨p, hp⟩ := lt_get (l := vs) (i := j) (by rw [h.len]; exact hj)
  have hr := rowN2_at vs j p hp
  refine ⟨p, hp, ?_, ?_, World.ownsRow.frozenAt h.row _, World.ownsRow.frozenAt h.row _⟩
  · rw [World.ownsRow.cellAt h.row (j * 2) (by omega)]; exact hr.1
  · rw [World.ownsRow.cellAt h.row (j * 2 + 1) (by omega)]; exact hr.2

theorem RowZ.nodesZ {w : World} {base g n : Nat} {vs : List (Value × Value)} {F : List Nz} (h : RowZ w base g n vs F n) (hl : F.length = n) : NodesZ w 0 w.heap.size (.slice (some ⟨g, 0, none⟩) n n) F := by
  have hlt := World.ownsRow.lt h.row g rfl
  refine ⟨_, n, by rw [hl], by rw [hl]; exact ⟨Nat.le_refl _, (World.ownsRow.caps h.row).2⟩, fun j nd hj => ?_⟩
  have hjn : j < n := by have := get_lt hj; omega
  obtain ⟨p, hp, h1, h2⟩ := h.part j nd hjn hj
  obtain ⟨q, hq, c1, c2, _, _⟩ := h.cells hjn
  rw [hp] at hq
  injection hq with hq
  subst hq
  exact ⟨g, 0, p.1, p.2, rfl, Nat.zero_le _, hlt.2, by rw [Nat.zero_add]; exact c1, by rw [Nat.zero_add]; exact c2, h1.ints, h2.ints⟩
end

end Go.Proofs.Ytbphepgffnlloaa
