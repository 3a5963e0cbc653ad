/- The program's GoodForm. -/
import Derived.Test.YtabfdaofikccmaaFmAsc
import Derived.Test.YtabfdaofikccmaaFmLast
import Derived.Test.YtabfdaofikccmaaFmOpts
namespace Go.Proofs.Ytabfdaofikccmaa
open Go.RowKit
def okAt (f : List Nz) (k : Nat) : Bool := optsB (f.getD k ([], [])).1 k && optsB (f.getD k ([], [])).2 k
def structB (f : List Nz) : Bool := (List.range f.length).all (fun k => okAt f k)
def goodB (f : List Nz) : Bool := decide (0 < f.length) && (decide (f.length ≤ 120) && (structB f && (ascB (f.map downN) && usedB (f.map downN))))
theorem okAt_get {f : List Nz} {k : Nat} {nd : Nz} (h : f[k]? = some nd) : okAt f k = (optsB nd.1 k && optsB nd.2 k) := by
  unfold okAt
  rw [List.getD_eq_getElem?_getD, h]
  rfl
theorem optsB_iff (l : List Int) (n : Int) : optsB l n = true ↔ l.length ≤ 24 ∧ RisesIn l 0 (n - 1) := by
  unfold optsB
  rw [Bool.and_eq_true, decide_eq_true_iff, risesB_iff]
theorem structB_iff (f : List Nz) : structB f = true ↔ (∀ nd ∈ f, nd.1.length ≤ 24 ∧ nd.2.length ≤ 24) ∧ StructZ f := by
  unfold structB
  rw [List.all_eq_true]
  constructor
  · intro h
    have key : ∀ (k : Nat) (nd : Nz), f[k]? = some nd → (nd.1.length ≤ 24 ∧ RisesIn nd.1 0 ((k : Int) - 1)) ∧ (nd.2.length ≤ 24 ∧ RisesIn nd.2 0 ((k : Int) - 1)) := fun k nd hk => by
      have h1 := h k (List.mem_range.2 (get_lt hk))
      rw [okAt_get hk, Bool.and_eq_true, optsB_iff, optsB_iff] at h1
      exact h1
    refine ⟨fun nd hnd => ?_, fun k nd hk => ⟨(key k nd hk).1.2, (key k nd hk).2.2⟩⟩
    obtain ⟨k, hk⟩ := List.getElem?_of_mem hnd
    exact ⟨(key k nd hk).1.1, (key k nd hk).2.1⟩
  · rintro ⟨h1, h2⟩ k hk
    obtain ⟨nd, hnd⟩ := lt_get (List.mem_range.1 hk)
    rw [okAt_get hnd, Bool.and_eq_true, optsB_iff, optsB_iff]
    have := h1 nd (List.mem_of_getElem? hnd)
    have h3 := h2 k nd hnd
    exact ⟨⟨this.1, h3.1⟩, this.2, h3.2⟩
theorem goodB_iff (f : List Nz) : goodB f = true ↔ GoodZ f := by
  unfold goodB GoodZ FitsZ
  simp only [Bool.and_eq_true, decide_eq_true_eq, structB_iff, ascB_iff, usedB_iff]
  constructor
  · rintro ⟨h1, h2, ⟨h3, h4⟩, h5, h6⟩
    exact ⟨⟨h1, h2, h3⟩, h4, h5, h6⟩
  · rintro ⟨⟨h1, h2, h3⟩, h4, h5, h6⟩
    exact ⟨h1, h2, ⟨h3, h4⟩, h5, h6⟩
theorem goodOptions_calls' (v : Value) (l : List Int) (n : Int) (r : Bool) (hr : Hid (optsB l n = r)) (w : World) (lo hi : Nat) (h : IntsZ w lo hi v l) (hn : n ≤ 1000000) :
    Calls Try.prog 78 #[v, .int .i64 n] w fun e w' => e = .returned (.bool r) ∧ w = w' := by
  have := goodOptions_calls v l n w lo hi h hn
  rw [hr.out] at this
  exact this
set_option maxHeartbeats 2000000 in
theorem goodI_calls (v : Value) (f : List Nz) (w : World) (lo hi : Nat) (hh : hi ≤ w.heap.size) (hv : NodesZ w lo hi v f) :
    Calls Try.prog 48 #[.agg #[v]] w fun e w' => e = .returned (.bool (goodB f)) ∧ Below w.heap.size w w' := by
  have HV := Lib.hid hv
  obtain ⟨ao, c, rfl, hlm, _⟩ := hv
  have HB0 : Hid (Below w.heap.size w (w.alloc (.cells #[.slice ao f.length c] 28))) := Lib.hid ((Below.refl _ _).alloc (Nat.le_refl _) _)
  have hd0 : (w.alloc (.cells #[.slice ao f.length c] 28)).cell? ⟨w.heap.size, 0, none⟩ = some (.slice ao f.length c) := by go_simp
  by_cases hz : f.length = 0
  · have HR : Hid (goodB f = false) := Lib.hid (by unfold goodB; rw [hz]; rfl)
    have h1 : ((f.length : Int) == 0) = true := by simp [hz]
    clear hz HV hd0
    go_enter Try.func48, Try.ntmps48
    go_wp2
    go_ret
    exact ⟨ret_bool HR.out.symm, HB0.out⟩
  · by_cases hbig : 120 < f.length
    · have HR : Hid (goodB f = false) := Lib.hid (by
        unfold goodB
        rw [decide_eq_false (show ¬ f.length ≤ 120 by omega)]
        simp)
      have h1 : ((f.length : Int) == 0) = false := by rw [beq_eq_false_iff_ne]; omega
      have h2 : (120 : Int) < f.length := by omega
      clear hz HV hd0
      go_enter Try.func48, Try.ntmps48
      go_wp2
      go_ret
      exact ⟨ret_bool HR.out.symm, HB0.out⟩
    · have HR : Hid (goodB f = (structB f && (ascB (f.map downN) && usedB (f.map downN)))) := Lib.hid (by
        unfold goodB
        rw [decide_eq_true (show 0 < f.length by omega), decide_eq_true (show f.length ≤ 120 by omega)]
        simp)
      have h1 : ((f.length : Int) == 0) = false := by rw [beq_eq_false_iff_ne]; omega
      have h2 : ¬ (120 : Int) < f.length := by omega
      have h3 : ¬ 120 < f.length := by omega
      go_enter Try.func48, Try.ntmps48
      go_wp2
      go_loopw [18] (fun i wr => ∃ k : Nat, k ≤ f.length ∧ i = .int .i64 k ∧ Hid (∀ m, m < k → okAt f m = true) ∧ Hid (Below w.heap.size w wr) ∧ wr.cell? ⟨w.heap.size, 0, none⟩ = some (.slice ao f.length c)) (fun i _ => f.length - (intOf i).toNat)
      case atStart => exact ⟨0, Nat.zero_le _, rfl, Lib.hid (fun m hm => by omega), HB0, hd0⟩
      case round =>
        obtain ⟨k, hk, rfl, hok, hb, hd⟩ := hrel
        clear hd0
        by_cases hlt : k < f.length
        · obtain ⟨nd, hx⟩ := lt_get hlt
          obtain ⟨ao1, c1, e1, _, hn⟩ := HV.out.below hb.out hh
          obtain ⟨b, off, v1, v2, rfl, hlo, hhi, p1, p2, i1, i2⟩ := hn k nd hx
          injection e1 with e1 q1 q2
          obtain rfl := e1
          clear q1 q2 hn
          obtain ⟨a1, n1, d1, hf1⟩ : ∃ a n c, v1 = .slice a n c := by obtain ⟨a, c, h, _⟩ := i1; exact ⟨a, _, c, h⟩
          obtain ⟨a2, n2, d2, hf2⟩ : ∃ a n c, v2 = .slice a n c := by obtain ⟨a, c, h, _⟩ := i2; exact ⟨a, _, c, h⟩
          subst hf1 hf2
          have hbz := hb.out.size
          have hdl := block_of_cell hd
          have hba : Hid (Below wr.heap.size wr (wr.alloc (.cells #[.slice a1 n1 d1, .slice a2 n2 d2] 57))) := Lib.hid ((Below.refl _ _).alloc (Nat.le_refl _) _)
          have HB2 : Hid (Below w.heap.size w (wr.alloc (.cells #[.slice a1 n1 d1, .slice a2 n2 d2] 57))) := Lib.hid (hb.out.alloc hbz _)
          have hd2 : Hid ((wr.alloc (.cells #[.slice a1 n1 d1, .slice a2 n2 d2] 57)).cell? ⟨w.heap.size, 0, none⟩ = some (.slice (some ⟨b, off, none⟩) f.length c)) := Lib.hid ((bcell hba.out _ _ hdl).trans hd)
          obtain ⟨r1, hr1⟩ : ∃ r, optsB nd.1 k = r := ⟨_, rfl⟩
          obtain ⟨r2, hr2⟩ : ∃ r, optsB nd.2 k = r := ⟨_, rfl⟩
          have C1 := Lib.hid (goodOptions_calls' _ nd.1 k r1 (Lib.hid hr1) _ lo hi (i1.below hba.out (by omega)) (by omega))
          have C2 := Lib.hid (goodOptions_calls' _ nd.2 k r2 (Lib.hid hr2) _ lo hi (i2.below hba.out (by omega)) (by omega))
          have HK : Hid (okAt f k = (r1 && r2)) := Lib.hid (by rw [okAt_get hx, hr1, hr2])
          have hno : Hid ((r1 && r2) = false → goodB f = false) := Lib.hid (fun h => by
            rw [HR.out, ← Bool.not_eq_true, Bool.and_eq_true]
            rintro ⟨hs, _⟩
            unfold structB at hs
            rw [List.all_eq_true] at hs
            have := hs k (List.mem_range.2 hlt)
            rw [HK.out, h] at this
            cases this)
          clear i1 i2 hr1 hr2 hx
          have b0 : (0 : Int) ≤ k := by omega
          have b1 : (k : Int) < f.length := by omega
          cases r1 with
          | false =>
            have R := Lib.hid (hno.out rfl)
            go_wp2_with (first | ((with_reducible refine C1.out.mono ?_); rintro e w' ⟨rfl, rfl⟩) | ((with_reducible refine C2.out.mono ?_); rintro e w' ⟨rfl, rfl⟩))
            go_ret
            exact ⟨ret_bool R.out.symm, HB2.out⟩
          | true =>
            cases r2 with
            | false =>
              have R := Lib.hid (hno.out rfl)
              go_wp2_with (first | ((with_reducible refine C1.out.mono ?_); rintro e w' ⟨rfl, rfl⟩) | ((with_reducible refine C2.out.mono ?_); rintro e w' ⟨rfl, rfl⟩))
              go_ret
              exact ⟨ret_bool R.out.symm, HB2.out⟩
            | true =>
              have R : Hid (∀ m, m < k + 1 → okAt f m = true) := Lib.hid (fun m hm => by
                by_cases e : m = k
                · rw [e, HK.out]; rfl
                · exact hok.out m (by omega))
              go_wp2_with (first | ((with_reducible refine C1.out.mono ?_); rintro e w' ⟨rfl, rfl⟩) | ((with_reducible refine C2.out.mono ?_); rintro e w' ⟨rfl, rfl⟩))
              go_roundw
              case rel => exact ⟨k + 1, by omega, by go_num, R, HB2, hd2.out⟩
              case measure => simp [intOf]; omega
        · have HSt : structB f = true := by
            unfold structB
            rw [List.all_eq_true]
            exact fun m hm => hok.out m (by have := List.mem_range.1 hm; omega)
          have hst := ((structB_iff f).1 HSt).2
          obtain ⟨hup, hs⟩ := hst.up
          have hl2 : (f.map downN).length = f.length := by simp
          have HR2 : Hid (goodB f = (ascB (f.map downN) && usedB (f.map downN))) := Lib.hid (by rw [HR.out, HSt]; simp)
          have hbz := hb.out.size
          have hdl := block_of_cell hd
          have hvw : NodesZ wr lo hi (.slice ao f.length c) ((f.map downN).map upN) := by rw [hup]; exact HV.out.below hb.out hh
          obtain ⟨r1, hr1⟩ : ∃ r, ascB (f.map downN) = r := ⟨_, rfl⟩
          obtain ⟨r2, hr2⟩ : ∃ r, usedB (f.map downN) = r := ⟨_, rfl⟩
          have C1 := asc_calls _ (f.map downN) wr lo hi (by omega) hvw hs.under (by rw [hl2]; omega) (by rw [hl2]; omega)
          have C2 := Lib.hid fun (W : World) (hW : Below wr.heap.size wr W) => last_calls _ (f.map downN) W lo hi (by have := hW.size; omega) (hvw.below hW (by omega)) hs.under (by rw [hl2]; omega) (by rw [hl2]; omega)
          rw [hr1] at C1 HR2
          rw [hr2] at C2 HR2
          have C1 := Lib.hid C1
          clear hvw hup hs hl2 hst HSt hr1 hr2 hok HR
          cases r1 with
          | false =>
            go_wp2_with fail
            refine C1.out.mono ?_
            rintro e w4 ⟨rfl, hb4⟩
            have HB4 := Lib.hid (hb.out.trans (hb4.mono hbz))
            clear hb4
            go_wp2_with fail
            go_ret
            exact ⟨ret_bool (by rw [HR2.out]; rfl), HB4.out⟩
          | true =>
            go_wp2_with fail
            refine C1.out.mono ?_
            rintro e w4 ⟨rfl, hb4⟩
            have hd4 := (bcell hb4 _ _ hdl).trans hd
            have HB4 := Lib.hid (hb.out.trans (hb4.mono hbz))
            have C3 := Lib.hid (C2.out w4 hb4)
            have hz4 := HB4.out.size
            clear hb4 C2
            go_wp2_with fail
            refine C3.out.mono ?_
            rintro e w5 ⟨rfl, hb5⟩
            have HB5 := Lib.hid (HB4.out.trans (hb5.mono hz4))
            clear hb5
            go_wp2_with fail
            go_ret
            exact ⟨ret_bool (by rw [HR2.out]; rfl), HB5.out⟩

end Go.Proofs.Ytabfdaofikccmaa
