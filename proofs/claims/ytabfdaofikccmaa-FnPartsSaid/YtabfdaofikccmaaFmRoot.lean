/- (*spec.l3Book).root: a form's last node put into a book. -/
import Derived.Test.YtabfdaofikccmaaFmAdd
namespace Go.Proofs.Ytabfdaofikccmaa
open Go.RowKit
set_option maxHeartbeats 1000000 in
theorem root_calls (base B : Nat) (ns : List Nd) (vn0 vb0 : Value) (vs0 : List (Value × Value)) (vf : Value) (f : List Nd) (w : World) (lo hi : Nat) (hh : hi ≤ base)
    (h : Bk base w B ns (bornsOf ns) vn0 vb0 vs0 (fun _ => False)) (hbk : Book ns) (hv : NodesZ w lo hi vf (f.map upN)) (hf : Under f) (h0 : 0 < f.length) (hn : ns.length + f.length ≤ 90000) (hl : ∀ nd ∈ f, nd.1.length ≤ 90000 ∧ nd.2.length ≤ 90000) :
    Calls Try.prog 76 #[.pointer (some ⟨B, 0, none⟩), .agg #[vf]] w fun e w' => e = .returned (.int .i64 ((addF ns f).2.getD (f.length - 1) 0 : Nat)) ∧ ∃ vn vb vs,
      Bk base w' B (addF ns f).1 (bornsOf (addF ns f).1) vn vb vs (fun _ => False) ∧ Only w w' (Foot B vn0 vb0) ∧ ∀ x, x < w.heap.size → Foot B vn vb x → Foot B vn0 vb0 x := by
  have hbase : base ≤ w.heap.size := by have := h.lt B (Or.inl rfl); omega
  have C := Lib.hid fun (W : World) (hW : Below w.heap.size w W) => add_calls base B ns vn0 vb0 vs0 vf f W lo hi hh (h.below hW) hbk (hv.below hW (by omega)) hf hn hl
  have hfl := (addF_len ns f).1
  obtain ⟨y, hy⟩ := lt_get (l := (addF ns f).2) (i := f.length - 1) (by omega)
  have HY : Hid ((addF ns f).2.getD (f.length - 1) 0 = y) := Lib.hid (by rw [List.getD_eq_getElem?_getD, hy]; rfl)
  have HYY := Lib.hid hy
  have hB1 : Hid (Below w.heap.size w (w.alloc (.cells #[vf] 28))) := Lib.hid ((Below.refl _ _).alloc (Nat.le_refl _) _)
  have hw1 : IntKind.i64.wrap ((f.length : Int) - 1) = (f.length : Int) - 1 := IntWalk.i64_in _ (by omega)
  have hw2 : (0 : Int) ≤ (f.length : Int) - 1 := by omega
  have hw3 : (f.length : Int) - 1 < f.length := by omega
  have hw4 : ((f.length : Int) - 1).toNat = f.length - 1 := by omega
  clear h hv hbk hf hl hfl hy
  go_enter Try.func76, Try.ntmps76
  go_wp2_with fail
  refine (C.out _ hB1.out).mono ?_
  rintro e w4 ⟨g, c, vn, vb, vs, rfl, hi4, hK4, ho4, hf4⟩
  have hsz4 := ho4.size
  obtain ⟨ao, c', e', _, hcc⟩ := hi4
  obtain ⟨bb, oo, hao, _, _, hcell⟩ := hcc (f.length - 1) (y : Int) (by unfold upL; rw [List.getElem?_map, HYY.out]; rfl)
  obtain ⟨q1, q2, q3⟩ := slice_inj e'
  rw [← q1] at hao
  injection hao with hao
  injection hao with h1 h2
  subst h1 h2
  rw [Nat.zero_add] at hcell
  have HK := Lib.hid hK4
  have HO : Hid (Only w w4 (Foot B vn0 vb0)) := Lib.hid ((Only.of_below (F := Foot B vn0 vb0) hB1.out).trans ho4 (fun _ _ h => h))
  have HFF : Hid (∀ x, x < w.heap.size → Foot B vn vb x → Foot B vn0 vb0 x) := Lib.hid (fun x hx => hf4 x (by simp; omega))
  clear hcc q1 q2 q3 e' hK4 ho4 hf4 hsz4
  go_wp2
  go_ret
  exact ⟨ret_int (by rw [HY.out]), vn, vb, vs, HK.out, HO.out, HFF.out⟩

end Go.Proofs.Ytabfdaofikccmaa
