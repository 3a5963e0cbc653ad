/- The laws' lists of forms: how great, and copied. -/
import Derived.Test.YtgbpnegdoilfnaaFsPut
import Derived.Test.YtgbpnegdoilfnaaFmLaw
import Derived.Test.YtgbpnegdoilfnaaFmToOwn
namespace Go.Proofs.Ytgbpnegdoilfnaa
open Go.RowKit
set_option linter.unusedVariables false
set_option linter.unusedSimpArgs false

/-- how many numbers, nodes and forms -/
def tzFs (Fs : List (List Nz)) : Nat := Fs.length + (Fs.map szNs).sum

theorem szNs_take (f : List (List Nz)) (k : Nat) (h : k < f.length) : ((f.take (k + 1)).map szNs).sum = ((f.take k).map szNs).sum + szNs f[k] := by
  rw [List.take_succ_eq_append_getElem h, List.map_append, List.sum_append, List.map_singleton, List.sum_singleton]
theorem szNs_le (f : List (List Nz)) (k : Nat) : ((f.take k).map szNs).sum ≤ (f.map szNs).sum := by
  have h : (f.map szNs).sum = ((f.take k).map szNs).sum + ((f.drop k).map szNs).sum := by
    rw [← List.sum_append, ← List.map_append, List.take_append_drop]
  omega
theorem szNs_mem (f : List (List Nz)) (nd : List Nz) (h : nd ∈ f) : szNs nd ≤ (f.map szNs).sum := by
  induction f with
  | nil => cases h
  | cons x f ih =>
    rcases List.mem_cons.1 h with rfl | h
    · simp
    · have := ih h; simp; omega

set_option maxHeartbeats 1000000 in
theorem szFormS_calls (v : Value) (f : List (List Nz)) (w : World) (lo hi : Nat) (hh : hi ≤ w.heap.size) (m : Int) (h0 : 0 ≤ m) (h1 : m ≤ 1048576) (hv : FormsZ w lo hi v f) :
    Calls Try.prog 18 #[v, .int .i64 m] w fun e w' => e = .returned (.int .i64 (leftOf m (tzFs f))) ∧ Below w.heap.size w w' := by
  have HV := Lib.hid hv
  obtain ⟨ao, c, rfl, hl, _⟩ := hv
  by_cases hbig : (f.length : Int) ≤ m
  · have hnot : ¬ (m - (f.length : Int) < 0) := by omega
    go_enter Try.func18, Try.ntmps18
    go_wp2
    go_loopw [1, 5] (fun q i wr => ∃ (k : Nat) (r : Int), k ≤ f.length ∧ i = .int .i64 k ∧ q = .int .i64 r ∧ 0 ≤ r ∧ r ≤ 1048576 ∧ Hid (r = m - (f.length : Int) - (((f.take k).map szNs).sum : Int)) ∧ Hid (Below w.heap.size w wr)) (fun _ i _ => f.length - (intOf i).toNat)
    case atStart => exact ⟨0, _, Nat.zero_le _, rfl, rfl, by omega, by omega, Lib.hid (by simp), Lib.hid (Below.refl _ _)⟩
    case round =>
      obtain ⟨k, r, hk, rfl, rfl, hr0, hr1, hr, hb⟩ := hrel
      by_cases hlt : k < f.length
      · have hs : Hid (((f.take (k + 1)).map szNs).sum = ((f.take k).map szNs).sum + szNs f[k]) := Lib.hid (szNs_take f k hlt)
        have hle := szNs_le f (k + 1)
        have hw := HV.out.below hb.out hh
        obtain ⟨ao', c', e', _, hn⟩ := hw
        obtain ⟨b, off, v1, rfl, hlo, hhi, c1, i1⟩ := hn k f[k] (List.getElem?_eq_getElem hlt)
        injection e' with e1 e2 e3
        obtain rfl := e1
        clear hn
        have C := Lib.hid (szForm_calls v1 f[k] wr lo hi (by have := hb.out.size; omega) r hr0 hr1 i1)
        obtain ⟨av1, nv1, cv1, rfl⟩ : ∃ a n c, v1 = .slice a n c := by obtain ⟨a, c, e, _⟩ := i1; exact ⟨a, _, c, e⟩
        clear i1 e2 e3 hlo hhi
        generalize f[k] = nd at hs C
        have b0 : (0 : Int) ≤ k := by omega
        have b1 : (k : Int) < f.length := by omega
        by_cases hn2 : leftOf r (szNs nd) < 0
        · have HR : Hid (leftOf m (tzFs f) = -1) := Lib.hid (by
            have g1 := (leftOf_neg r (szNs nd) hr0).1 hn2
            have g2 := hr.out
            have g3 := hs.out
            unfold leftOf tzFs
            rw [if_neg (by omega)])
          clear hs hr hle
          generalize leftOf r (szNs nd) = r2 at C hn2
          go_wp2_with ((with_reducible refine C.out.mono ?_); rintro e w' ⟨rfl, hbl⟩)
          have hb2 : Hid (Below wr.heap.size wr w') := Lib.hid hbl
          clear hbl
          go_wp2
          go_ret
          exact ⟨ret_int HR.out.symm, hb.out.trans (hb2.out.mono hb.out.size)⟩
        · have g1 : (szNs nd : Int) ≤ r := by have := (leftOf_neg r (szNs nd) hr0); omega
          have R1 : Hid (leftOf r (szNs nd) = m - (f.length : Int) - (((f.take (k + 1)).map szNs).sum : Int)) := Lib.hid (by rw [leftOf_pos _ _ g1, hs.out]; have := hr.out; omega)
          have R2 : 0 ≤ leftOf r (szNs nd) := by omega
          have R3 : leftOf r (szNs nd) ≤ 1048576 := by rw [leftOf_pos _ _ g1]; omega
          clear hs hr hle g1
          generalize leftOf r (szNs nd) = r2 at C hn2 R1 R2 R3
          go_wp2_with ((with_reducible refine C.out.mono ?_); rintro e w' ⟨rfl, hbl⟩)
          have hb2 : Hid (Below w.heap.size w w') := Lib.hid (hb.out.trans (hbl.mono hb.out.size))
          clear hbl
          go_wp2
          go_roundw
          case rel => exact ⟨k + 1, _, by omega, by go_num, rfl, R2, R3, R1, hb2⟩
          case measure => simp [intOf]; omega
      · have HR : Hid (leftOf m (tzFs f) = r) := Lib.hid (by
          have h2 := hr.out
          rw [show k = f.length from by omega, List.take_length] at h2
          unfold leftOf tzFs
          rw [if_pos (by omega)]
          omega)
        clear hr
        go_wp2
        go_ret
        exact ⟨ret_int HR.out.symm, hb.out⟩
  · have HR : Hid (leftOf m (tzFs f) = -1) := Lib.hid (by unfold leftOf tzFs; rw [if_neg (by omega)])
    have hyes : m - (f.length : Int) < 0 := by omega
    go_enter Try.func18, Try.ntmps18
    go_wp2
    go_ret
    exact ⟨ret_int HR.out.symm, Below.refl _ _⟩


/-- the forms so far, and empty ones -/
def fsK (Fs : List (List Nz)) (k : Nat) : List (List Nz) := Fs.take k ++ List.replicate (Fs.length - k) []
theorem fsK_len (Fs : List (List Nz)) (k : Nat) (h : k ≤ Fs.length) : (fsK Fs k).length = Fs.length := by unfold fsK; simp; omega
theorem fsK_all (Fs : List (List Nz)) : fsK Fs Fs.length = Fs := by simp [fsK]
theorem fsK_set (Fs : List (List Nz)) (k : Nat) (f : List Nz) (h : Fs[k]? = some f) : (fsK Fs k).set k f = fsK Fs (k + 1) := by
  have hk := get_lt h
  unfold fsK
  have e1 : (Fs.take k).length = k := by simp; omega
  rw [List.set_append_right _ _ (by rw [e1]; exact Nat.le_refl _), e1, Nat.sub_self, show Fs.length - k = (Fs.length - (k + 1)) + 1 from by omega, List.replicate_succ, List.set_cons_zero, List.take_add_one, h, List.append_assoc]
  rfl

set_option maxRecDepth 100000 in
set_option maxHeartbeats 1000000 in
theorem toFormS_own (v : Value) (Fs : List (List Nz)) (w : World) (lo hi : Nat) (hh : hi ≤ w.heap.size) (hv : FormsZ w lo hi v Fs) (hl : tzFs Fs ≤ 1048576) :
    Calls Try.prog 20 #[v] w fun e w' => ∃ g ps, e = .returned (.slice (some ⟨g, 0, none⟩) Fs.length Fs.length) ∧ OwnFS w' w.heap.size (.slice (some ⟨g, 0, none⟩) Fs.length Fs.length) ps Fs ∧ Below w.heap.size w w' := by
  obtain ⟨i0, hi0, hz0, hz1, hz2⟩ := info_parts infoFormA
  have HV := Lib.hid hv
  have HL := Lib.hid hl
  have hfl : Fs.length ≤ 1048576 := by unfold tzFs at hl; omega
  obtain ⟨ao, c, rfl, _, _⟩ := hv
  clear hl
  go_enter Try.func20, Try.ntmps20
  go_wp2_with (at_make; refine wpList_make_full _ rfl _ _ 35 rfl w.heap.size 24 i0 (.agg #[.slice none 0 0]) 1 Try.underlying35 hi0 hz0 hz1 _ _ _ _ Fs.length rfl rfl rfl rfl (by rw [hz2]; omega) (by unfold maxLen; omega) (Nat.le_refl _) ?_; intro w1 hown hg)
  have HO : Hid (OwnFS w1 w.heap.size (.slice (some ⟨w.heap.size, 0, none⟩) Fs.length Fs.length) (List.replicate Fs.length (.slice none 0 0, [])) (fsK Fs 0)) := Lib.hid (by
    have e : (madeCells (Value.agg #[.slice none 0 0]).cells (Fs.length * 1)).toList = List.replicate Fs.length (.slice none 0 0) := by
      show (madeCells #[Value.slice none 0 0] (Fs.length * 1)).toList = _
      rw [Nat.mul_one, made_one]
    rw [e] at hown
    have h := ownFS_made hown
    simpa [fsK] using h)
  have HB : Hid (Below w.heap.size w w1) := Lib.hid ((Below.refl _ _).grown hg (Nat.le_refl _) (fun k hk => by cases hk))
  clear hown hg
  go_wp2
  go_loopw [4] (fun i wr => ∃ (k : Nat) (ps : List (Value × List (Value × Value))), k ≤ Fs.length ∧ i = .int .i64 k ∧ Hid (OwnFS wr w.heap.size (.slice (some ⟨w.heap.size, 0, none⟩) Fs.length Fs.length) ps (fsK Fs k)) ∧ Hid (Below w.heap.size w wr)) (fun i _ => Fs.length - (intOf i).toNat)
  case atStart => exact ⟨0, _, Nat.zero_le _, rfl, HO, HB⟩
  case round =>
    obtain ⟨k, ps, hk, rfl, ho, hb⟩ := hrel
    clear HO HB
    by_cases hlt : k < Fs.length
    · obtain ⟨f, hf⟩ := lt_get hlt
      have hsz : szNs f ≤ 1048576 := by
        have h1 := szNs_mem Fs f (List.mem_of_getElem? hf)
        have h2 := HL.out
        unfold tzFs at h2
        omega
      obtain ⟨ao1, c1, e1, _, hn⟩ := HV.out.below hb.out hh
      obtain ⟨b, off, v1, rfl, _, _, p1, i1⟩ := hn k f hf
      obtain ⟨q1, q2, q3⟩ := slice_inj e1
      subst q1 q3
      clear q2 hn e1
      have hbz := hb.out.size
      have C := Lib.hid (toForm_own v1 f wr lo hi (by omega) i1 hsz)
      have HST := Lib.hid (fsK_set Fs k f hf)
      have hpl := fsK_len Fs k hk
      obtain ⟨av1, nv1, cv1, rfl⟩ : ∃ a n c, v1 = .slice a n c := by obtain ⟨a, c, e, _⟩ := i1; exact ⟨a, _, c, e⟩
      have k0 : (0 : Int) ≤ k := by omega
      have k1 : (k : Int) < Fs.length := by omega
      have HPL := Lib.hid hpl
      clear i1 hsz hpl hf
      go_wp2_with fail
      refine C.out.mono ?_
      rintro e w2 ⟨gx, vs, rfl, hF, hb2⟩
      have hpl := HPL.out
      have ho2 := ho.out.below hb2
      obtain ⟨f0, hf0⟩ := lt_get (l := fsK Fs k) (i := k) (by rw [hpl]; exact hlt)
      obtain ⟨g', c', p, e1, hp, hc, _⟩ := ho2.form_at hf0
      have hg' : w.heap.size = g' := by
        injection e1 with e1
        injection e1 with e1
        injection e1
      subst hg'
      clear e1
      have hfz := World.ownsRow.frozenAt (show w2.ownsRow w.heap.size 24 1 (.slice (some ⟨w.heap.size, 0, none⟩) (fsK Fs k).length Fs.length) (fsK Fs k).length (ps.map Prod.fst) from by have h := ho2.row; rw [hpl] at h ⊢; exact h) k
      have hall : ∀ b, AllFS (.slice (some ⟨w.heap.size, 0, none⟩) Fs.length Fs.length) ps b → b < wr.heap.size := fun b hb => (ho.out.allS hb).2
      have hput := OwnFS.put (w := w2) (base := w.heap.size) (j := k) (g := w.heap.size) (c := Fs.length) (N := wr.heap.size) (ps := ps) (Fs := fsK Fs k) (f := f) (p := (.slice (some ⟨gx, 0, none⟩) f.length f.length, vs)) (by rw [hpl]; exact ho2) (by rw [hpl]; exact hlt) (hF.mono hb.out.size) (fun b hb => (hF.all (p := (.slice (some ⟨gx, 0, none⟩) f.length f.length, vs)) hb).1) (by rw [hpl]; exact hall)
      rw [HST.out, hpl] at hput
      have R1 := Lib.hid hput
      have R2 : Hid (Below w.heap.size w (w2.setCell ⟨w.heap.size, k, none⟩ (.slice (some ⟨gx, 0, none⟩) f.length f.length))) := Lib.hid ((hb.out.trans (hb2.mono hb.out.size)).setCell (Nat.le_refl _) _)
      clear hput hall ho2 hF hb2 ho hb hf0 hp hpl C p1
      go_wp2
      go_roundw
      case rel => exact ⟨k + 1, _, by omega, by go_num, R1, R2⟩
      case measure => first | (simp [intOf]; done) | (simp [intOf]; omega)
    · have hke : k = Fs.length := by omega
      subst hke
      have HF := Lib.hid (show OwnFS wr w.heap.size (.slice (some ⟨w.heap.size, 0, none⟩) Fs.length Fs.length) ps Fs from by have h := ho.out; rw [fsK_all] at h; exact h)
      clear ho
      go_wp2
      go_ret
      exact ⟨_, _, rfl, HF.out, hb.out⟩

end Go.Proofs.Ytgbpnegdoilfnaa
