/- The walk of laws.FnGreatest. -/
import Derived.Test.YtiacgcpcgabdoaaDgAll
import Derived.Test.YtiacgcpcgabdoaaGgAll
import Derived.Test.YtiacgcpcgabdoaaOaAll
namespace Go.Proofs.Ytiacgcpcgabdoaa
open Go.RowKit
set_option linter.unusedVariables false
set_option linter.unusedSimpArgs false

theorem geI_at {Gs : List (List Nz)} {x k : Nat} {f g : List Nz} (hf : Gs[x]? = some f) (hg : Gs[k]? = some g) : geI Gs x k = !diffF f g false := by
  unfold geI
  rw [List.getD_eq_getElem?_getD, List.getD_eq_getElem?_getD, hf, hg]
  rfl

/-- what has been covered by the first of them -/
def Cov (Gs : List (List Nz)) (L : List Nat) (k m : Nat) (b : Bool) : Prop := b = true ↔ ∃ x ∈ L.take m, geI Gs x k = true

theorem cov_zero (Gs : List (List Nz)) (L : List Nat) (k : Nat) : Cov Gs L k 0 false := by
  unfold Cov
  simp

theorem cov_next {Gs : List (List Nz)} {L : List Nat} {k m x : Nat} {b y : Bool} (h : Cov Gs L k m b) (hx : L[m]? = some x) (hy : geI Gs x k = y) : Cov Gs L k (m + 1) (b || y) := by
  unfold Cov at *
  have ht : L.take (m + 1) = L.take m ++ [x] := by rw [List.take_add_one, hx]; rfl
  rw [ht, Bool.or_eq_true, h, ← hy]
  constructor
  · rintro (⟨z, h1, h2⟩ | h1)
    · exact ⟨z, List.mem_append_left _ h1, h2⟩
    · exact ⟨x, by simp, h1⟩
  · rintro ⟨z, h1, h2⟩
    rcases List.mem_append.1 h1 with h3 | h3
    · exact Or.inl ⟨z, h3, h2⟩
    · rw [List.mem_singleton] at h3
      subst h3
      exact Or.inr h2

theorem cov_all {Gs : List (List Nz)} {L : List Nat} {k : Nat} {b : Bool} (h : Cov Gs L k L.length b) (hk : k < Gs.length) (hL : L = bestL (geI Gs) Gs.length) (hg : ∀ f ∈ Gs, goodB f = true) : b = true := by
  unfold Cov at h
  rw [List.take_length] at h
  refine h.2 ?_
  rw [hL]
  exact (best_more (geI Gs) (geI_refl hg) (geI_trans hg) Gs.length).1 k hk

set_option maxRecDepth 100000 in
set_option maxHeartbeats 8000000 in
theorem fnGreatest_walk (ao : Option Addr) (n c : Nat) (w : World) (hc : CodeIn w (.slice ao n c) n) :
    Calls Try.prog 5 #[.slice ao n c] w fun e w' => e = .returned (.bool true) ∧ Below w.heap.size w w' := by
  have HC := Lib.hid hc
  have HV := Lib.hid (vBig_calls ao n c w)
  clear hc
  by_cases hbig : 65536 < n
  · rw [decide_eq_true hbig] at HV
    go_enter Try.func5, Try.ntmps5
    go_wp2_with fail
    refine HV.out.mono ?_
    rintro e w1 ⟨rfl, rfl⟩
    go_wp2_with fail
    go_ret
    exact ⟨rfl, Below.refl _ _⟩
  rw [decide_eq_false hbig] at HV
  have CD := Lib.hid (drawGreatest_calls ao n c w HC.out (by omega))
  clear HC hbig
  go_enter Try.func5, Try.ntmps5
  go_wp2_with fail
  refine HV.out.mono ?_
  rintro e w0 ⟨rfl, rfl⟩
  clear HV
  go_wp2_with fail
  refine CD.out.mono ?_
  rintro e w1 ⟨g, c1, Gs, rfl, hlen, hF, hb1⟩
  obtain ⟨ok, hok⟩ : ∃ ok, alB 24 Gs = ok := ⟨_, rfl⟩
  obtain ⟨L, hL⟩ : ∃ L, grtV Gs = L := ⟨_, rfl⟩
  have HF := Lib.hid hF
  have HB1 := Lib.hid hb1
  have hw1 := hb1.size
  have C1 := Lib.hid (greatI_calls _ Gs ok L (Lib.hid hok) (Lib.hid hL) w1 _ _ (Nat.le_refl _) hF)
  have C2 := Lib.hid fun (W : World) (hW : Below w1.heap.size w1 W) => greatS_calls _ Gs ok L (Lib.hid hok) (Lib.hid hL) W _ _ hW.size (hF.below hW (Nat.le_refl _))
  have HOK := Lib.hid hok
  have HL := Lib.hid hL
  have q2 : (ok != ok) = false := by simp
  clear CD hF hb1 hok hL
  go_wp2_with fail
  refine C1.out.mono ?_
  rintro e w2 ⟨a2, c2, rfl, hi2, hb2⟩
  have HI2 := Lib.hid hi2
  have HB2 := Lib.hid hb2
  have hw2 := hb2.size
  clear hi2 hb2 C1
  go_wp2_with fail
  refine (C2.out _ HB2.out).mono ?_
  rintro e w3 ⟨a3, c3, rfl, hi3, hb3⟩
  have HI3 := Lib.hid (HI2.out.below hb3)
  have HB3 := Lib.hid (below_viaD HB2.out hb3)
  have hw3 := hb3.size
  have CV := Lib.hid (vInts_same _ _ _ w3 _ _ _ _ (HI2.out.below hb3).ints hi3.ints)
  clear hi3 hb3 C2 HI2 HB2
  have k3 := HI3.out.ints
  go_wp2_with fail
  refine CV.out.mono ?_
  rintro e w4 ⟨rfl, m4, rfl⟩
  have hbd := below_drewN (Below.refl w3.heap.size w3) m4
  have HB4 := Lib.hid (below_viaD HB3.out hbd)
  have HI4 := Lib.hid (HI3.out.below hbd)
  generalize w3.drewN m4 = w4 at HB4 HI4 ⊢
  clear CV hbd HB3 HI3 k3
  have hbw := HB4.out.size
  cases ok with
  | false =>
    have hL0 : L = [] := by rw [← HL.out]; unfold grtV; rw [HOK.out]; rfl
    subst hL0
    clear HL HOK HF HI4
    go_wp2
    go_loopw [8] (fun i wr => i = .int .i64 0 ∧ wr = w4) (fun _ _ => 0)
    case atStart => exact ⟨rfl, rfl⟩
    case round =>
      obtain ⟨rfl, rfl⟩ := hrel
      by_cases h0 : (0 : Int) < Gs.length
      · go_wp2_with fail
        go_ret
        exact ⟨rfl, HB1.out.trans (HB4.out.mono hw1)⟩
      · go_wp2_with fail
        go_ret
        exact ⟨rfl, HB1.out.trans (HB4.out.mono hw1)⟩
  | true =>
    have hgood := (alB_parts HOK.out).2
    have HLB : Hid (L = bestL (geI Gs) Gs.length) := Lib.hid (by rw [← HL.out]; unfold grtV; rw [HOK.out]; rfl)
    have HLT : Hid (∀ (m x : Nat), L[m]? = some x → x < Gs.length) := Lib.hid (fun m x h => best_lt (by rw [← HLB.out]; exact List.mem_of_getElem? h))
    have HAL := Lib.hid (fun (k : Nat) (b : Bool) (h : Cov Gs L k L.length b) (hk : k < Gs.length) => cov_all h hk HLB.out hgood)
    have HAT := Lib.hid fun (W : World) (va vb : Value) (f g : List Nz) (x k : Nat) (hf : Gs[x]? = some f) (hg : Gs[k]? = some g) (lo hi lo' hi' : Nat) (hh : hi ≤ W.heap.size) (hh' : hi' ≤ W.heap.size) (hva : NodesZ W lo hi va f) (hvb : NodesZ W lo' hi' vb g) =>
      atLeastI_calls va vb f g (geI Gs x k) true (Lib.hid (by rw [hgood f (List.mem_of_getElem? hf), hgood g (List.mem_of_getElem? hg)]; rfl)) (Lib.hid (by rw [hgood f (List.mem_of_getElem? hf), hgood g (List.mem_of_getElem? hg), geI_at hf hg]; simp)) W lo hi lo' hi' hh hh' hva hvb
    have hLl : (upL L).length = L.length := by simp [upL]
    have HF4 := Lib.hid (HF.out.below HB4.out (Nat.le_refl _))
    have HN4 := Lib.hid HI4.out.ints
    have HBW := Lib.hid (HB1.out.trans (HB4.out.mono hw1))
    clear HL HOK HI4 HF HLB hgood HB1
    go_wp2
    go_loopw [8] (fun i wr => ∃ k : Nat, k ≤ Gs.length ∧ i = .int .i64 k ∧ Hid (Below w4.heap.size w4 wr)) (fun i _ => Gs.length - (intOf i).toNat)
    case atStart => exact ⟨0, Nat.zero_le _, rfl, Lib.hid (Below.refl _ _)⟩
    case round =>
      obtain ⟨k, hk, rfl, hB⟩ := hrel
      have k0 : (0 : Int) ≤ k := by omega
      by_cases hlt : k < Gs.length
      · have k1 : (k : Int) < Gs.length := by omega
        obtain ⟨fk, hfk⟩ := lt_get hlt
        go_wp2
        go_loopw [9, 10] (fun b j wr => ∃ (m : Nat) (y : Bool), m ≤ L.length ∧ j = .int .i64 m ∧ b = .bool y ∧ Hid (Cov Gs L k m y) ∧ Hid (Below w4.heap.size w4 wr)) (fun _ j _ => L.length - (intOf j).toNat)
        case atStart => exact ⟨0, false, Nat.zero_le _, rfl, rfl, Lib.hid (cov_zero Gs L k), hB⟩
        case round =>
          obtain ⟨m, y, hm, rfl, rfl, hy, hB'⟩ := hrel
          by_cases hml : m < L.length
          · have m0 : (0 : Int) ≤ m := by omega
            have m1 : (m : Int) < L.length := by omega
            have hbl := hB'.out.size
            obtain ⟨x, hx⟩ := lt_get hml
            have hxl := HLT.out m x hx
            have x0 : (0 : Int) ≤ x := by omega
            have x1 : (x : Int) < Gs.length := by omega
            obtain ⟨fx, hfx⟩ := lt_get hxl
            obtain ⟨ab, cb, eb, _, hnb⟩ := HN4.out.below hB'.out (Nat.le_refl _)
            obtain ⟨b, off, rfl, _, hbh, p1⟩ := hnb m (x : Int) (by unfold upL; rw [List.getElem?_map, hx]; rfl)
            injection eb with eb q3 q4
            subst eb
            obtain ⟨af, cf, ef, _, hnf⟩ := HF4.out.below hB'.out (by omega)
            injection ef with ef q5 q6
            subst ef
            obtain ⟨b2, off2, vx, e2, _, _, p2, i2⟩ := hnf x fx hfx
            injection e2 with e2
            injection e2 with e2 e2'
            subst e2 e2'
            obtain ⟨b3, off3, vk, e3, _, _, p3, i3⟩ := hnf k fk hfk
            injection e3 with e3
            injection e3 with e3 e3'
            subst e3 e3'
            rw [Nat.zero_add] at p2 p3
            obtain ⟨yy, hyy⟩ : ∃ yy, geI Gs x k = yy := ⟨_, rfl⟩
            have C := Lib.hid fun (W : World) (hW : Below wr.heap.size wr W) => HAT.out W vx vk fx fk x k hfx hfk _ _ _ _ (by have := hW.size; omega) (by have := hW.size; omega) (i2.below hW (by omega)) (i3.below hW (by omega))
            rw [hyy] at C
            have HS := Lib.hid fun (W : World) (hW : Below wr.heap.size wr W) => show W.cell? ⟨b, off + m, none⟩ = some (.int .i64 x) ∧ W.cell? ⟨g, x, none⟩ = some vx ∧ W.cell? ⟨g, k, none⟩ = some vk ∧ Below wr.heap.size wr W from ⟨(bcell hW _ _ (block_of_cell p1)).trans p1, (bcell hW _ _ (block_of_cell p2)).trans p2, (bcell hW _ _ (block_of_cell p3)).trans p3, hW⟩
            have hS0 := HS.out _ (below_drewN (Below.refl _ _) 1)
            have HY := Lib.hid (cov_next hy.out hx hyy)
            clear hnb hnf p1 p2 p3 i2 i3 q3 q4 q5 q6 hfx hx hyy hy HN4 HF4 hxl
            go_wp2
            go_region_held3 (fun W : World => W.cell? ⟨b, off + m, none⟩ = some (.int .i64 x) ∧ W.cell? ⟨g, x, none⟩ = some vx ∧ W.cell? ⟨g, k, none⟩ = some vk ∧ Below wr.heap.size wr W) (first | exact hS0 | (go_split_ands; exact ⟨‹_›, ‹_›, ‹_›, ‹_›⟩) | (go_split_ands; exact HS.out _ (below_viaD (by assumption) hb5))) (first | (go_at_call 11; go_split_ands; refine (C.out _ (by assumption)).mono ?_; rintro e w5 ⟨rfl, hb5⟩))
            go_split_ands
            cases y with
            | true =>
              go_wp2
              go_roundw
              case rel => exact ⟨m + 1, true, by omega, by go_num, rfl, Lib.hid (by simpa using HY.out), Lib.hid (hB'.out.trans (Below.mono (by assumption) hbl))⟩
              case measure => simp [intOf]; omega
            | false =>
              go_wp2
              go_roundw
              case rel => exact ⟨m + 1, yy, by omega, by go_num, rfl, Lib.hid (by simpa using HY.out), Lib.hid (hB'.out.trans (Below.mono (by assumption) hbl))⟩
              case measure => simp [intOf]; omega
          · obtain rfl : m = L.length := by omega
            obtain rfl : y = true := HAL.out k y hy.out hlt
            go_wp2
            go_roundw
            case rel => exact ⟨k + 1, by omega, by go_num, hB'⟩
            case measure => simp [intOf]; omega
      · obtain rfl : k = Gs.length := by omega
        go_wp2_with fail
        go_ret
        exact ⟨rfl, HBW.out.trans (hB.out.mono HBW.out.size)⟩

end Go.Proofs.Ytiacgcpcgabdoaa
