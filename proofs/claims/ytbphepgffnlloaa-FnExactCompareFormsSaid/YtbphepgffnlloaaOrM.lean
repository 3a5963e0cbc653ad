/- The model's EqualForms and CompareForms. -/
import Derived.Test.YtbphepgffnlloaaOrL4
import Derived.Test.YtbphepgffnlloaaOrTop
import Derived.Test.YtbphepgffnlloaaOrCode
namespace Go.Proofs.Ytbphepgffnlloaa
open Go.RowKit
set_option linter.unusedVariables false
set_option linter.unusedSimpArgs false

theorem ge_left (f g : List Nz) (hf : goodB f = true) (hg : goodB g = true) : geTwo f g = !diffF f g false := by
  obtain ⟨hf1, hf2, _⟩ := (goodB_iff f).1 hf
  obtain ⟨hg1, hg2, _⟩ := (goodB_iff g).1 hg
  exact geTwo_left f g hf2 hg2 hf1.1 hg1.1 _ rfl

theorem ge_right (f g : List Nz) (hf : goodB f = true) (hg : goodB g = true) : geTwo g f = !diffF f g true := by
  obtain ⟨hf1, hf2, _⟩ := (goodB_iff f).1 hf
  obtain ⟨hg1, hg2, _⟩ := (goodB_iff g).1 hg
  exact geTwo_right f g hf2 hg2 hf1.1 hg1.1 _ rfl

theorem geqS_calls (va vb : Value) (f g : List Nz) (r : Bool) (hf : goodB f = true) (hg : goodB g = true) (hr : Hid (geTwo f g = r)) (w : World) (lo hi lo' hi' : Nat) (hh : hi ≤ w.heap.size) (hh' : hi' ≤ w.heap.size) (hva : NodesZ w lo hi va f) (hvb : NodesZ w lo' hi' vb g) :
    Calls Try.prog 62 #[.agg #[va], .agg #[vb]] w fun e w' => e = .returned (.bool r) ∧ Below w.heap.size w w' := by
  obtain ⟨hf1, hf2, _⟩ := (goodB_iff f).1 hf
  obtain ⟨hg1, hg2, _⟩ := (goodB_iff g).1 hg
  exact l4Geq_calls va vb f g r hr w lo hi lo' hi' hh hh' hva hvb hf1 hf2 hg1 hg2

set_option maxHeartbeats 1000000 in
theorem l4Equal_calls (va vb : Value) (f g : List Nz) (r : Bool) (hf : goodB f = true) (hg : goodB g = true) (hr : Hid ((geTwo f g && geTwo g f) = r)) (w : World) (lo hi lo' hi' : Nat) (hh : hi ≤ w.heap.size) (hh' : hi' ≤ w.heap.size) (hva : NodesZ w lo hi va f) (hvb : NodesZ w lo' hi' vb g) :
    Calls Try.prog 83 #[.agg #[va], .agg #[vb]] w fun e w' => e = .returned (.bool r) ∧ Below w.heap.size w w' := by
  have HB0 := Lib.hid fun o o' => show Below w.heap.size w ((w.alloc o).alloc o') from ((Below.refl _ _).alloc (Nat.le_refl _) _).alloc (by simp) _
  obtain ⟨r1, h1⟩ : ∃ x, geTwo f g = x := ⟨_, rfl⟩
  obtain ⟨r2, h2⟩ : ∃ x, geTwo g f = x := ⟨_, rfl⟩
  have HR : Hid ((r1 && r2) = r) := Lib.hid (by rw [← h1, ← h2]; exact hr.out)
  have C1 := Lib.hid fun (W : World) (hW : Below w.heap.size w W) => geqS_calls va vb f g r1 hf hg (Lib.hid h1) W lo hi lo' hi' (Nat.le_trans hh hW.size) (Nat.le_trans hh' hW.size) (hva.below hW hh) (hvb.below hW hh')
  have C2 := Lib.hid fun (W : World) (hW : Below w.heap.size w W) => geqS_calls vb va g f r2 hg hf (Lib.hid h2) W lo' hi' lo hi (Nat.le_trans hh' hW.size) (Nat.le_trans hh hW.size) (hvb.below hW hh') (hva.below hW hh)
  clear hva hvb h1 h2 hr hf hg
  go_enter Try.func83, Try.ntmps83
  go_wp2_with fail
  refine (C1.out _ (HB0.out _ _)).mono ?_
  rintro e w4 ⟨rfl, hb4⟩
  have k1 : w4.cell? ⟨w.heap.size, 0, none⟩ = some va := (bcell hb4 _ _ (by simp; omega)).trans (by go_simp)
  have k2 : w4.cell? ⟨w.heap.size + 1, 0, none⟩ = some vb := (bcell hb4 _ _ (by simp)).trans (by go_simp)
  have HB4 := Lib.hid (Below.trans (HB0.out _ _) (hb4.mono (by simp; omega)))
  clear hb4
  cases r1 with
  | false =>
    obtain rfl : r = false := by rw [← HR.out]; rfl
    go_wp2_with fail
    go_ret
    exact ⟨rfl, HB4.out⟩
  | true =>
    obtain rfl : r = r2 := by rw [← HR.out]; simp
    go_wp2_with fail
    refine (C2.out _ HB4.out).mono ?_
    rintro e w5 ⟨rfl, hb5⟩
    have HB5 := Lib.hid (HB4.out.trans (hb5.mono HB4.out.size))
    clear hb5
    go_wp2_with fail
    go_ret
    exact ⟨rfl, HB5.out⟩

set_option maxHeartbeats 1000000 in
theorem equalS_calls (va vb : Value) (f g : List Nz) (a ok : Bool) (hok : Hid ((goodB f && goodB g) = ok)) (ha : Hid ((goodB f && goodB g && (!diffF f g false && !diffF f g true)) = a)) (w : World) (lo hi lo' hi' : Nat) (hh : hi ≤ w.heap.size) (hh' : hi' ≤ w.heap.size) (hva : NodesZ w lo hi va f) (hvb : NodesZ w lo' hi' vb g) :
    Calls Try.prog 40 #[.agg #[va], .agg #[vb]] w fun e w' => e = .returned (.tuple #[.bool a, .bool ok]) ∧ Below w.heap.size w w' := by
  have HB0 := Lib.hid fun o o' => show Below w.heap.size w ((w.alloc o).alloc o') from ((Below.refl _ _).alloc (Nat.le_refl _) _).alloc (by simp) _
  obtain ⟨r1, h1⟩ : ∃ r, goodB f = r := ⟨_, rfl⟩
  obtain ⟨r2, h2⟩ : ∃ r, goodB g = r := ⟨_, rfl⟩
  have CA := Lib.hid fun (W : World) (hW : Below w.heap.size w W) => goodS_res va f r1 (Lib.hid h1) W lo hi (Nat.le_trans hh hW.size) (hva.below hW hh)
  have CB := Lib.hid fun (W : World) (hW : Below w.heap.size w W) => goodS_res vb g r2 (Lib.hid h2) W lo' hi' (Nat.le_trans hh' hW.size) (hvb.below hW hh')
  have CQ : Hid (r1 = true → r2 = true → ∀ W : World, Below w.heap.size w W → Calls Try.prog 83 #[.agg #[va], .agg #[vb]] W fun e w' => e = .returned (.bool a) ∧ Below W.heap.size W w') := Lib.hid (fun e1 e2 W hW => by
    have hf := h1.trans e1
    have hg := h2.trans e2
    exact l4Equal_calls va vb f g a hf hg (Lib.hid (by rw [← ha.out, hf, hg]; rw [ge_left f g hf hg, ge_right f g hf hg]; simp)) W lo hi lo' hi' (Nat.le_trans hh hW.size) (Nat.le_trans hh' hW.size) (hva.below hW hh) (hvb.below hW hh'))
  have HOK : Hid ((r1 && r2) = ok) := Lib.hid (by rw [← h1, ← h2]; exact hok.out)
  have HA : Hid ((r1 && r2) = false → a = false) := Lib.hid (fun h => by rw [← ha.out, h1, h2, h]; rfl)
  clear hva hvb h1 h2 hok ha
  go_enter Try.func40, Try.ntmps40
  go_wp2_with fail
  refine (CA.out _ (HB0.out _ _)).mono ?_
  rintro e w4 ⟨rfl, hb4⟩
  have k1 : w4.cell? ⟨w.heap.size, 0, none⟩ = some va := (bcell hb4 _ _ (by simp; omega)).trans (by go_simp)
  have k2 : w4.cell? ⟨w.heap.size + 1, 0, none⟩ = some vb := (bcell hb4 _ _ (by simp)).trans (by go_simp)
  have l1 := block_of_cell k1
  have l2 := block_of_cell k2
  have HB4 := Lib.hid (Below.trans (HB0.out _ _) (hb4.mono (by simp; omega)))
  clear hb4
  cases r1 with
  | false =>
    obtain rfl : ok = false := by rw [← HOK.out]; rfl
    obtain rfl : a = false := HA.out rfl
    clear CA CB CQ HOK HA
    go_wp2_with fail
    exact bodyPost_ret (v := .tuple #[.bool false, .bool false]) (by simp [results, Try.results40, go_sem]) rfl ⟨rfl, HB4.out⟩
  | true =>
    go_wp2_with fail
    refine (CB.out _ HB4.out).mono ?_
    rintro e w5 ⟨rfl, hb5⟩
    have k1 := (bcell hb5 _ _ l1).trans k1
    have k2 := (bcell hb5 _ _ l2).trans k2
    have HB5 := Lib.hid (HB4.out.trans (hb5.mono HB4.out.size))
    clear hb5
    cases r2 with
    | false =>
      obtain rfl : ok = false := by rw [← HOK.out]; rfl
      obtain rfl : a = false := HA.out rfl
      clear CA CB CQ HOK HA
      go_wp2_with fail
      exact bodyPost_ret (v := .tuple #[.bool false, .bool false]) (by simp [results, Try.results40, go_sem]) rfl ⟨rfl, HB5.out⟩
    | true =>
      obtain rfl : ok = true := by rw [← HOK.out]; rfl
      have CQ2 := Lib.hid (CQ.out (by first | trivial | rfl) (by first | trivial | rfl))
      clear CA CB CQ HOK HA
      go_wp2_with fail
      refine (CQ2.out _ HB5.out).mono ?_
      rintro e w6 ⟨rfl, hb6⟩
      have HB6 := Lib.hid (HB5.out.trans (hb6.mono HB5.out.size))
      clear hb6
      go_wp2_with fail
      exact bodyPost_ret (v := .tuple #[.bool a, .bool true]) (by simp [results, Try.results40, go_sem]) rfl ⟨rfl, HB6.out⟩

theorem held2 {w w' : World} {b c : Nat} {v v' : Value} (h : w.cell? ⟨b, 0, none⟩ = some v) (hb : b < w.heap.size) (h' : w.cell? ⟨c, 0, none⟩ = some v') (hc : c < w.heap.size) (hB : Below w.heap.size w w') : w'.cell? ⟨b, 0, none⟩ = some v ∧ w'.cell? ⟨c, 0, none⟩ = some v' ∧ Below w.heap.size w w' := ⟨(bcell hB b 0 hb).trans h, (bcell hB c 0 hc).trans h', hB⟩

set_option maxHeartbeats 1000000 in
theorem compareS_calls (va vb : Value) (f g : List Nz) (x : Int) (ok : Bool) (hok : Hid ((goodB f && goodB g) = ok)) (hx : Hid ((if goodB f && goodB g then codeOf (!diffF f g false) (!diffF f g true) else 0) = x)) (w : World) (lo hi lo' hi' : Nat) (hh : hi ≤ w.heap.size) (hh' : hi' ≤ w.heap.size) (hva : NodesZ w lo hi va f) (hvb : NodesZ w lo' hi' vb g) :
    Calls Try.prog 38 #[.agg #[va], .agg #[vb]] w fun e w' => e = .returned (.tuple #[.int .i64 x, .bool ok]) ∧ Below w.heap.size w w' := by
  have HB0 := Lib.hid fun o o' => show Below w.heap.size w ((w.alloc o).alloc o') from ((Below.refl _ _).alloc (Nat.le_refl _) _).alloc (by simp) _
  obtain ⟨r1, h1⟩ : ∃ r, goodB f = r := ⟨_, rfl⟩
  obtain ⟨r2, h2⟩ : ∃ r, goodB g = r := ⟨_, rfl⟩
  have CA := Lib.hid fun (W : World) (hW : Below w.heap.size w W) => goodS_res va f r1 (Lib.hid h1) W lo hi (Nat.le_trans hh hW.size) (hva.below hW hh)
  have CB := Lib.hid fun (W : World) (hW : Below w.heap.size w W) => goodS_res vb g r2 (Lib.hid h2) W lo' hi' (Nat.le_trans hh' hW.size) (hvb.below hW hh')
  obtain ⟨g1, hq1⟩ : ∃ r, geTwo f g = r := ⟨_, rfl⟩
  obtain ⟨g2, hq2⟩ : ∃ r, geTwo g f = r := ⟨_, rfl⟩
  have CQ1 : Hid (r1 = true → r2 = true → ∀ W : World, Below w.heap.size w W → Calls Try.prog 62 #[.agg #[va], .agg #[vb]] W fun e w' => e = .returned (.bool g1) ∧ Below W.heap.size W w') := Lib.hid (fun e1 e2 W hW => 
    geqS_calls va vb f g g1 (h1.trans e1) (h2.trans e2) (Lib.hid hq1) W lo hi lo' hi' (Nat.le_trans hh hW.size) (Nat.le_trans hh' hW.size) (hva.below hW hh) (hvb.below hW hh'))
  have CQ2 : Hid (r1 = true → r2 = true → ∀ W : World, Below w.heap.size w W → Calls Try.prog 62 #[.agg #[vb], .agg #[va]] W fun e w' => e = .returned (.bool g2) ∧ Below W.heap.size W w') := Lib.hid (fun e1 e2 W hW => 
    geqS_calls vb va g f g2 (h2.trans e2) (h1.trans e1) (Lib.hid hq2) W lo' hi' lo hi (Nat.le_trans hh' hW.size) (Nat.le_trans hh hW.size) (hvb.below hW hh') (hva.below hW hh))
  have HQ : Hid (r1 = true → r2 = true → codeOf g1 g2 = x) := Lib.hid (fun e1 e2 => by
    have hf := h1.trans e1
    have hg := h2.trans e2
    rw [← hq1, ← hq2, ← hx.out, hf, hg, ge_left f g hf hg, ge_right f g hf hg]
    rfl)
  have HOK : Hid ((r1 && r2) = ok) := Lib.hid (by rw [← h1, ← h2]; exact hok.out)
  have HA : Hid ((r1 && r2) = false → x = 0) := Lib.hid (fun h => by rw [← hx.out, h1, h2, h]; rfl)
  clear hva hvb h1 h2 hok hx hq1 hq2
  go_enter Try.func38, Try.ntmps38
  go_wp2_with fail
  refine (CA.out _ (HB0.out _ _)).mono ?_
  rintro e w4 ⟨rfl, hb4⟩
  have k1 : w4.cell? ⟨w.heap.size, 0, none⟩ = some va := (bcell hb4 _ _ (by simp; omega)).trans (by go_simp)
  have k2 : w4.cell? ⟨w.heap.size + 1, 0, none⟩ = some vb := (bcell hb4 _ _ (by simp)).trans (by go_simp)
  have l1 := block_of_cell k1
  have l2 := block_of_cell k2
  have HB4 := Lib.hid (Below.trans (HB0.out _ _) (hb4.mono (by simp; omega)))
  clear hb4
  cases r1 with
  | false =>
    obtain rfl : ok = false := by rw [← HOK.out]; rfl
    obtain rfl : x = 0 := HA.out rfl
    clear CA CB CQ1 CQ2 HQ HOK HA
    go_wp2_with fail
    exact bodyPost_ret (v := .tuple #[.int .i64 0, .bool false]) (by simp [results, Try.results38, go_sem]) rfl ⟨rfl, HB4.out⟩
  | true =>
    go_wp2_with fail
    refine (CB.out _ HB4.out).mono ?_
    rintro e w5 ⟨rfl, hb5⟩
    have k1 := (bcell hb5 _ _ l1).trans k1
    have k2 := (bcell hb5 _ _ l2).trans k2
    have HB5 := Lib.hid (HB4.out.trans (hb5.mono HB4.out.size))
    clear hb5
    cases r2 with
    | false =>
      obtain rfl : ok = false := by rw [← HOK.out]; rfl
      obtain rfl : x = 0 := HA.out rfl
      clear CA CB CQ1 CQ2 HQ HOK HA
      go_wp2_with fail
      exact bodyPost_ret (v := .tuple #[.int .i64 0, .bool false]) (by simp [results, Try.results38, go_sem]) rfl ⟨rfl, HB5.out⟩
    | true =>
      obtain rfl : ok = true := by rw [← HOK.out]; rfl
      obtain rfl : x = codeOf g1 g2 := (HQ.out (by first | trivial | rfl) (by first | trivial | rfl)).symm
      have D1 := Lib.hid (CQ1.out (by first | trivial | rfl) (by first | trivial | rfl))
      have D2 := Lib.hid (CQ2.out (by first | trivial | rfl) (by first | trivial | rfl))
      have l1 := block_of_cell k1
      have l2 := block_of_cell k2
      clear CA CB CQ1 CQ2 HQ HOK HA
      go_upto_region 3 with fail
      have HS := Lib.hid HB5.out
      have hbd : Below w5.heap.size w5 w5.drew := below_drewN (Below.refl _ _) 1
      have hS0 := held2 k1 l1 k2 l2 hbd
      go_region_held3 (fun w' : World => w'.cell? ⟨w.heap.size, 0, none⟩ = some va ∧ w'.cell? ⟨w.heap.size + 1, 0, none⟩ = some vb ∧ Below w5.heap.size w5 w') (first | exact hS0 | (go_split_ands; exact ⟨‹_›, ‹_›, ‹_›⟩) | exact held2 k1 l1 k2 l2 hbB | exact held2 k1 l1 k2 l2 hbA) (first
        | (go_at_call 81; (with_reducible refine (l4Code_calls _ _ _).mono ?_); rintro e wc ⟨rfl, rfl⟩)
        | (go_at_call 62; (with_reducible refine (D1.out _ (HS.out.trans (hbd.mono HS.out.size))).mono ?_); rintro e wa ⟨rfl, hba⟩; have hbA := hbd.trans (hba.mono hbd.size))
        | (go_at_call 62; (with_reducible refine (D2.out wa (HS.out.trans (hbA.mono HS.out.size))).mono ?_); rintro e wb ⟨rfl, hbb⟩; have hbB := hbA.trans (hbb.mono hbA.size)))
      all_goals
        rename_i hH
        go_wp2_with fail
        exact bodyPost_ret (v := .tuple #[.int .i64 (codeOf g1 g2), .bool true]) (by simp [results, Try.results38, go_sem]) rfl ⟨rfl, HS.out.trans (hH.2.2.mono HS.out.size)⟩

end Go.Proofs.Ytbphepgffnlloaa
