/- impl.partsOf: the parts at some places. -/
import Derived.Test.YtlhpkoaegldjdaaFmForms
import Derived.Test.YtlhpkoaegldjdaaFmPartT
namespace Go.Proofs.Ytlhpkoaegldjdaa
open Go.RowKit
set_option linter.unusedVariables false
set_option linter.unusedSimpArgs false

theorem infoFormA : (Try.prog.info? 26).map (fun i => (i.zero, i.size, i.bytes)) = some (some (.agg #[.slice none 0 0]), 1, 24) := by kernel_rfl

theorem OwnFS.put {w : World} {base j g c N : Nat} {ps : List (Value × List (Value × Value))} {Fs : List (List Nz)} {f : List Nz} {p : Value × List (Value × Value)} (h : OwnFS w base (.slice (some ⟨g, 0, none⟩) Fs.length c) ps Fs) (hj : j < Fs.length) (hf : OwnF w base p.1 p.2 f)
    (hN : ∀ b, AllF p b → N ≤ b) (hlt : ∀ b, AllFS (.slice (some ⟨g, 0, none⟩) Fs.length c) ps b → b < N) : OwnFS (w.setCell ⟨g, j, none⟩ p.1) base (.slice (some ⟨g, 0, none⟩) Fs.length c) (ps.set j p) (Fs.set j f) := by
  have s1 := World.ownsRow.stored h.row j p.1
  rw [← List.map_set] at s1
  have hv : (Value.slice (some ⟨g, 0, none⟩) Fs.length c).ownBlock = some g := rfl
  have hgN := hlt g (Or.inl hv)
  have ho : Only w (w.setCell ⟨g, j, none⟩ p.1) (fun b => b = g) := Only.of_set (F := fun b => b = g) (p := ⟨g, j, none⟩) p.1 rfl
  have hpl : ∀ (i : Nat) (q : Value × List (Value × Value)), ps[i]? = some q → ∀ b, AllF q b → b < N := fun i q hq b hb => hlt b (Or.inr ⟨i, q, hq, hb⟩)
  refine ⟨by rw [List.length_set]; exact s1.1, by rw [List.length_set, List.length_set]; exact h.len, fun i n0 q hi hq => ?_, fun i q hq => ?_, fun i k q r hne hq hr => ?_⟩
  · rcases set_get hi with ⟨e1, e2⟩ | ⟨hne, hi⟩
    · rcases set_get hq with ⟨_, e3⟩ | ⟨e, _⟩
      · rw [e2, e3]
        exact hf.apart ho (fun b hb e => by have := hN b hb; omega)
      · exact absurd e1 e
    · rcases set_get hq with ⟨e, _⟩ | ⟨_, hq⟩
      · exact absurd e hne
      · exact (h.each i n0 q hi hq).apart ho (fun b hb e => h.two i q hq b hb (by rw [hv, e]))
  · rcases set_get hq with ⟨_, e3⟩ | ⟨_, hq⟩
    · intro b hb e
      rw [e3] at hb
      rw [hv] at e
      injection e with e
      have := hN b hb
      omega
    · exact h.two i q hq
  · rcases set_get hq with ⟨e1, e2⟩ | ⟨h3, hq2⟩
    · rcases set_get hr with ⟨e3, _⟩ | ⟨h4, hr2⟩
      · exact absurd (e1.trans e3.symm) hne
      · intro b hb hb2
        rw [e2] at hb
        have := hN b hb
        have := hpl k r hr2 b hb2
        omega
    · rcases set_get hr with ⟨e3, e4⟩ | ⟨h4, hr2⟩
      · intro b hb hb2
        rw [e4] at hb2
        have := hN b hb2
        have := hpl i q hq2 b hb
        omega
      · exact h.sep i k q r hne hq2 hr2

/-- the parts so far, and empty forms -/
def partsK (f : List Nd) (L : List Nat) (k : Nat) : List (List Nz) := (L.take k).map (fun x => (partI f x).map upN) ++ List.replicate (L.length - k) []
theorem partsK_len (f : List Nd) (L : List Nat) (k : Nat) (h : k ≤ L.length) : (partsK f L k).length = L.length := by simp [partsK]; omega
theorem partsK_all (f : List Nd) (L : List Nat) : partsK f L L.length = L.map (fun x => (partI f x).map upN) := by simp [partsK]
theorem partsK_set (f : List Nd) (L : List Nat) (k x : Nat) (h : L[k]? = some x) : (partsK f L k).set k ((partI f x).map upN) = partsK f L (k + 1) := by
  have hk := get_lt h
  unfold partsK
  have e1 : ((L.take k).map (fun x => (partI f x).map upN)).length = k := by simp; omega
  rw [List.set_append_right _ _ (by rw [e1]; exact Nat.le_refl _), e1, Nat.sub_self, show L.length - k = (L.length - (k + 1)) + 1 from by omega, List.replicate_succ, List.set_cons_zero, List.take_add_one, h, List.map_append, List.append_assoc]
  rfl

theorem allF_nil (b : Nat) : ¬ AllF (.slice none 0 0, []) b := by
  rintro (h | ⟨i, p, h, _⟩)
  · cases h
  · simp at h

/-- a row of empty forms -/
theorem ownFS_made {w : World} {base g n : Nat} (h : w.ownsRow base 26 1 (.slice (some ⟨g, 0, none⟩) n n) n (List.replicate n (.slice none 0 0))) : OwnFS w base (.slice (some ⟨g, 0, none⟩) n n) (List.replicate n (.slice none 0 0, [])) (List.replicate n []) := by
  have hm : ∀ (j : Nat) (p : Value × List (Value × Value)), (List.replicate n ((.slice none 0 0, []) : Value × List (Value × Value)))[j]? = some p → p = (.slice none 0 0, []) := fun j p hp => (List.mem_replicate.1 (List.mem_of_getElem? hp)).2
  refine ⟨by rw [List.length_replicate, List.map_replicate]; exact h, by simp, fun j f p hf hp => ?_, fun j p hp b hb => ?_, fun i j p q _ hp _ b hb => ?_⟩
  · rw [hm j p hp, (List.mem_replicate.1 (List.mem_of_getElem? hf)).2]
    exact OwnF.nil _ _
  · rw [hm j p hp] at hb
    exact absurd hb (allF_nil b)
  · rw [hm i p hp] at hb
    exact absurd hb (allF_nil b)

set_option maxRecDepth 100000 in
set_option maxHeartbeats 1000000 in
theorem partsI_calls (v vt : Value) (f : List Nd) (L : List Nat) (w : World) (lo hi lo' hi' : Nat) (hh : hi ≤ w.heap.size) (hh' : hi' ≤ w.heap.size) (hv : NodesZ w lo hi v (f.map upN)) (ht : IntsZ w lo' hi' vt (upL L)) (hu : Under f) (hL : ∀ x ∈ L, x < f.length) (hl : f.length ≤ 120) (hl2 : L.length ≤ 1000) (hn : ∀ nd ∈ f, nd.1.length ≤ 24 ∧ nd.2.length ≤ 24) :
    Calls Try.prog 65 #[v, vt] w fun e w' => ∃ g ps, e = .returned (.slice (some ⟨g, 0, none⟩) L.length L.length) ∧ OwnFS w' w.heap.size (.slice (some ⟨g, 0, none⟩) L.length L.length) ps (L.map (fun x => (partI f x).map upN)) ∧ Below w.heap.size w w' := by
  obtain ⟨i0, hi0, hz0, hz1, hz2⟩ := info_parts infoFormA
  obtain ⟨at', ct, rfl, hct⟩ := ints_lenP ht
  obtain ⟨av, cv, hve, hcv⟩ : ∃ av cv, v = .slice av f.length cv ∧ f.length ≤ cv := by obtain ⟨ao, c, e, h1, _⟩ := hv; rw [List.length_map] at e h1; exact ⟨ao, c, e, h1.1⟩
  subst hve
  have HT := Lib.hid ht
  have HLL := Lib.hid hL
  have C := Lib.hid fun (W : World) (hW : Below w.heap.size w W) (x : Nat) (hx : x < f.length) => partOf_calls movedC (.slice av f.length cv) f x W lo hi (Nat.le_trans hh hW.size) (hv.below hW hh) hu hx hl hn
  clear hv ht hu hL hn
  go_enter Try.func65, Try.ntmps65
  go_wp2_with (at_make; refine wpList_make_full _ rfl _ _ 29 rfl w.heap.size 26 i0 (.agg #[.slice none 0 0]) 1 Try.underlying29 hi0 hz0 hz1 _ _ _ _ L.length rfl rfl rfl rfl (by rw [hz2]; omega) (by unfold maxLen; omega) (Nat.le_refl _) ?_; intro w1 hown hg)
  have HO : Hid (OwnFS w1 w.heap.size (.slice (some ⟨w.heap.size, 0, none⟩) (partsK f L 0).length L.length) (List.replicate L.length (.slice none 0 0, [])) (partsK f L 0)) := Lib.hid (by
    have e : (madeCells (Value.agg #[.slice none 0 0]).cells (L.length * 1)).toList = List.replicate L.length (.slice none 0 0) := by
      show (madeCells #[Value.slice none 0 0] (L.length * 1)).toList = _
      rw [Nat.mul_one, made_one]
    rw [e] at hown
    rw [partsK_len f L 0 (Nat.zero_le _)]
    have h := ownFS_made hown
    simpa [partsK] using h)
  have HB : Hid (Below w.heap.size w w1) := Lib.hid ((Below.refl _ _).grown hg (Nat.le_refl _) (fun k hk => by cases hk))
  clear hown hg
  rw [partsK_len f L 0 (Nat.zero_le _)] at HO
  go_wp2
  go_loopw [13] (fun i wr => ∃ (k : Nat) (ps : List (Value × List (Value × Value))), k ≤ L.length ∧ i = .int .i64 k ∧ Hid (OwnFS wr w.heap.size (.slice (some ⟨w.heap.size, 0, none⟩) L.length L.length) ps (partsK f L k)) ∧ Hid (Below w.heap.size w wr)) (fun i _ => L.length - (intOf i).toNat)
  case atStart => exact ⟨0, _, Nat.zero_le _, rfl, HO, HB⟩
  case round =>
    obtain ⟨k, ps, hk, rfl, ho, hb⟩ := hrel
    clear HO HB
    by_cases hlt : k < L.length
    · obtain ⟨x, hx⟩ := lt_get hlt
      have hxf := HLL.out x (List.mem_of_getElem? hx)
      obtain ⟨b1, o1, rfl, _, q1⟩ := ints_atP (HT.out.below hb.out hh') hx
      have C1 := Lib.hid (C.out wr hb.out x hxf)
      have hst := partsK_set f L k x hx
      have hpl := partsK_len f L k hk
      obtain ⟨P0, hP0⟩ : ∃ P0, partI f x = P0 := ⟨_, rfl⟩
      rw [hP0] at C1 hst
      have HST := Lib.hid hst
      have k0 : (0 : Int) ≤ k := by omega
      have k1 : (k : Int) < L.length := by omega
      clear hst hP0
      go_wp2_with fail
      refine C1.out.mono ?_
      rintro e w2 ⟨a, c, vs, rfl, hF, hb2⟩
      have ho2 := ho.out.below hb2
      obtain ⟨f0, hf0⟩ := lt_get (l := partsK f L k) (i := k) (by rw [hpl]; exact hlt)
      obtain ⟨g', c', p, e1, hp, hc, _⟩ := ho2.form_at hf0
      have hg' : w.heap.size = g' := by
        injection e1 with e1
        injection e1 with e1
        injection e1
      subst hg'
      clear e1
      have hfz := World.ownsRow.frozenAt (show w2.ownsRow w.heap.size 26 1 (.slice (some ⟨w.heap.size, 0, none⟩) (partsK f L k).length L.length) (partsK f L k).length (ps.map Prod.fst) from by have h := ho2.row; rw [hpl] at h ⊢; exact h) k
      have hall : ∀ b, AllFS (.slice (some ⟨w.heap.size, 0, none⟩) L.length L.length) ps b → b < wr.heap.size := fun b hb => (ho.out.allS hb).2
      have hput := OwnFS.put (w := w2) (base := w.heap.size) (j := k) (g := w.heap.size) (c := L.length) (N := wr.heap.size) (ps := ps) (Fs := partsK f L k) (f := P0.map upN) (p := (.slice a P0.length c, vs)) (by rw [hpl]; exact ho2) (by rw [hpl]; exact hlt) (hF.mono hb.out.size) (fun b hb => (hF.all (p := (.slice a P0.length c, vs)) hb).1) (by rw [hpl]; exact hall)
      rw [HST.out, hpl] at hput
      have R1 := Lib.hid hput
      have R2 : Hid (Below w.heap.size w (w2.setCell ⟨w.heap.size, k, none⟩ (.slice a P0.length c))) := Lib.hid ((hb.out.trans (hb2.mono hb.out.size)).setCell (Nat.le_refl _) _)
      clear hput hall ho2 hf0 hF hb2 ho hb C1 hx hp hpl HST
      go_wp2_with fail
      go_roundw
      case rel => exact ⟨k + 1, _, by omega, by go_num, R1, R2⟩
      case measure => first | (simp [intOf]; done) | (simp [intOf]; omega)
    · have hke : k = L.length := by omega
      subst hke
      have HF := Lib.hid (show OwnFS wr w.heap.size (.slice (some ⟨w.heap.size, 0, none⟩) L.length L.length) ps (L.map (fun x => (partI f x).map upN)) from by have h := ho.out; rw [partsK_all] at h; exact h)
      clear ho
      go_wp2
      go_ret
      exact ⟨_, ps, rfl, HF.out, hb.out⟩

end Go.Proofs.Ytlhpkoaegldjdaa
