/- The draws of chapter 1 that give numerals and texts to seal; a byte of the code. -/
import Derived.Test.YtjildaahoclojaaDoorDrawNums
import Derived.Test.YtjildaahoclojaaDoorWSplit
namespace Go.Proofs.YtjildaahoclojaaDoor
open Go.RowKit

def numeralsL : List ByteArray := [⟨#[]⟩, ⟨#[45]⟩, ⟨#[45, 48]⟩, ⟨#[48, 48]⟩, ⟨#[48, 49]⟩, ⟨#[45, 45, 49]⟩, ⟨#[49, 120]⟩, ⟨#[57, 57, 57, 57, 57, 57]⟩, ⟨#[49, 48, 48, 48, 48, 48, 48]⟩, ⟨#[45, 57, 57, 57, 57, 57, 57]⟩, ⟨#[49, 56, 52, 52, 54, 55, 52, 52, 48, 55, 51, 55, 48, 57, 53, 53, 49, 54, 49, 55]⟩]

theorem itoa_len (n : Int) (h : -1000 ≤ n) (h2 : n ≤ 1000) : (Lib.itoa n).length ≤ 21 := by
  unfold Lib.itoa
  split
  · have := decDigits_le n.natAbs (by omega)
    simp
    omega
  · have := decDigits_le n.toNat (by omega)
    omega

set_option maxRecDepth 100000 in
set_option maxHeartbeats 1000000 in
theorem drawReadNum_calls (ao : Option Addr) (n c : Nat) (w : World) (hc : CodeIn w (.slice ao n c) n) (hn : n ≤ 1000000) :
    Calls Tryd.prog 14 #[.slice ao n c] w fun e w' => (∃ x : ByteArray, x.size ≤ 30 ∧ e = .returned (.string x)) ∧ Below w.heap.size w w' := by
  have HC := Lib.hid (cur_new w (.slice ao n c))
  have HB : ∀ W, Cur w W w.heap.size (.slice ao n c) 0 → Hid (Calls Tryd.prog 40 #[.pointer (some ⟨w.heap.size, 0, none⟩), .int .i64 2] W fun e w' => (∃ b : Bool, e = .returned (.bool b)) ∧ Cur w w' w.heap.size (.slice ao n c) (0 + 2) ∧ W.grownBy w' (some w.heap.size)) := fun W hW => Lib.hid (one_calls w W w.heap.size n 0 2 (.slice ao n c) hc hn hW (by omega) (by omega) (by omega))
  have HP : ∀ (W : World), Cur w W w.heap.size (.slice ao n c) 2 → Hid (Calls Tryd.prog 36 #[.pointer (some ⟨w.heap.size, 0, none⟩), .int .i64 2000] W fun e w' => (∃ r : Nat, r < 2000 ∧ e = .returned (.int .i64 r)) ∧ Cur w w' w.heap.size (.slice ao n c) (2 + 2) ∧ W.grownBy w' (some w.heap.size)) := fun W hW => Lib.hid (pick_calls w W w.heap.size n 2 2000 (.slice ao n c) hc hn hW (by omega) (by omega) (by omega))
  have HL : ∀ W, Cur w W w.heap.size (.slice ao n c) 2 → Hid (Calls Tryd.prog 41 #[.pointer (some ⟨w.heap.size, 0, none⟩), .slice (some ⟨W.heap.size, 0, none⟩) 11 11] (W.alloc (.cells (numeralsL.map Value.string).toArray 9)) fun e w' => (∃ x ∈ numeralsL, e = .returned (.string x)) ∧ Cur w w' w.heap.size (.slice ao n c) (2 + 2) ∧ W.grownBy w' (some w.heap.size)) := fun W hW => Lib.hid (of_lit w W w.heap.size n 2 (.slice ao n c) numeralsL _ rfl 11 rfl hc hn hW (by omega) (by decide) (by decide))
  have HN : ∀ (r : Nat) (W : World), r < 2000 → Hid (Calls Tryd.prog 39 #[.int .i64 ((r : Int) - 1000)] W fun e w' => e = .returned (.string ⟨(Lib.itoa ((r : Int) - 1000)).toArray⟩) ∧ ∃ m, w' = W.drewN m) := fun r W hr => Lib.hid (l1Num_any _ W (by omega) (by omega))
  clear hc hn
  go_enter Tryd.func14, Tryd.ntmps14
  go_wp2_with fail
  refine (HB _ HC.out).out.mono ?_
  rintro e w1 ⟨⟨b, rfl⟩, hc1, hg1⟩
  have HC1 := Lib.hid hc1
  clear hc1 hg1
  cases b
  · go_wp2_with fail
    refine (HP w1 HC1.out).out.mono ?_
    rintro e w2 ⟨⟨r, hr, rfl⟩, hc2, hg2⟩
    have HB2 := Lib.hid hc2.2.1
    clear hc2 hg2
    go_wp2_with fail
    refine (HN r w2 hr).out.mono ?_
    rintro e w3 ⟨rfl, m, rfl⟩
    have HZ : Hid ((⟨(Lib.itoa ((r : Int) - 1000)).toArray⟩ : ByteArray).size ≤ 30) := Lib.hid (by
      have := itoa_len ((r : Int) - 1000) (by omega) (by omega)
      show (Lib.itoa ((r : Int) - 1000)).toArray.size ≤ 30
      rw [List.size_toArray]
      omega)
    generalize (⟨(Lib.itoa ((r : Int) - 1000)).toArray⟩ : ByteArray) = z at HZ
    go_wp2_with fail
    go_ret
    exact ⟨⟨z, HZ.out, rfl⟩, ⟨HB2.out.os, HB2.out.tape, HB2.out.output, HB2.out.size, HB2.out.block⟩⟩
  · go_wp2_with fail
    refine (HL w1 HC1.out).out.mono ?_
    rintro e w2 ⟨⟨x, hx, rfl⟩, hc2, hg2⟩
    have HX : Hid (x.size ≤ 30) := Lib.hid (by
      have : ∀ z ∈ numeralsL, z.size ≤ 30 := by decide
      exact this x hx)
    have HB2 := Lib.hid hc2.2.1
    clear hc2 hg2 hx
    go_wp2_with fail
    go_ret
    exact ⟨⟨x, HX.out, rfl⟩, HB2.out⟩

set_option maxRecDepth 100000 in
set_option maxHeartbeats 1000000 in
theorem drawSealText_calls (ao : Option Addr) (n c : Nat) (w : World) (hc : CodeIn w (.slice ao n c) n) (hn : n ≤ 1000000) :
    Calls Tryd.prog 17 #[.slice ao n c] w fun e w' => (∃ x : ByteArray, x.size ≤ 5000 ∧ e = .returned (.string x)) ∧ Below w.heap.size w w' := by
  obtain ⟨j0, hj, hy0, hy1, hy2⟩ := info_parts infoU8
  have HC := Lib.hid (cur_new w (.slice ao n c))
  have HB : ∀ W, Cur w W w.heap.size (.slice ao n c) 0 → Hid (Calls Tryd.prog 40 #[.pointer (some ⟨w.heap.size, 0, none⟩), .int .i64 20] W fun e w' => (∃ b : Bool, e = .returned (.bool b)) ∧ Cur w w' w.heap.size (.slice ao n c) (0 + 2) ∧ W.grownBy w' (some w.heap.size)) := fun W hW => Lib.hid (one_calls w W w.heap.size n 0 20 (.slice ao n c) hc hn hW (by omega) (by omega) (by omega))
  have HP : ∀ (W : World), Cur w W w.heap.size (.slice ao n c) 2 → Hid (Calls Tryd.prog 36 #[.pointer (some ⟨w.heap.size, 0, none⟩), .int .i64 10] W fun e w' => (∃ r : Nat, r < 10 ∧ e = .returned (.int .i64 r)) ∧ Cur w w' w.heap.size (.slice ao n c) (2 + 2) ∧ W.grownBy w' (some w.heap.size)) := fun W hW => Lib.hid (pick_calls w W w.heap.size n 2 10 (.slice ao n c) hc hn hW (by omega) (by omega) (by omega))
  have HA : ∀ W, Cur w W w.heap.size (.slice ao n c) 2 → Hid (Calls Tryd.prog 44 #[.pointer (some ⟨w.heap.size, 0, none⟩)] W fun e w' => (∃ x ∈ any1L, e = .returned (.string x)) ∧ Cur w w' w.heap.size (.slice ao n c) (2 + 2) ∧ W.grownBy w' (some w.heap.size)) := fun W hW => Lib.hid (any1_calls w W w.heap.size n 2 (.slice ao n c) hc hn hW (by omega))
  clear hc hn
  go_enter Tryd.func17, Tryd.ntmps17
  go_wp2_with fail
  refine (HB _ HC.out).out.mono ?_
  rintro e w1 ⟨⟨b, rfl⟩, hc1, hg1⟩
  have HC1 := Lib.hid hc1
  clear hc1 hg1
  cases b
  · go_wp2_with fail
    refine (HA w1 HC1.out).out.mono ?_
    rintro e w2 ⟨⟨x, hx, rfl⟩, hc2, hg2⟩
    have HX : Hid (x.size ≤ 5000) := Lib.hid (by have := any1_le hx; omega)
    have HB2 := Lib.hid hc2.2.1
    clear hc2 hg2 hx
    go_wp2_with fail
    go_ret
    exact ⟨⟨x, HX.out, rfl⟩, HB2.out⟩
  · go_wp2_with fail
    refine (HP w1 HC1.out).out.mono ?_
    rintro e w3 ⟨⟨r, hr, rfl⟩, hc3, hg3⟩
    have HB3 := Lib.hid hc3.2.1
    clear hc3 hg3
    obtain ⟨K, hK⟩ : ∃ K : Nat, K = 3990 + r := ⟨_, rfl⟩
    have HK := Lib.hid hK
    have hK2 : K ≤ 4020 := by omega
    clear hK
    go_wp2_with (at_make; refine wpList_make_full _ rfl _ _ 22 rfl w3.heap.size 5 j0 (.int .u8 0) 1 Tryd.underlying22 hj hy0 hy1 _ _ _ _ K rfl rfl (by have := HK.out; omega) (by have := HK.out; omega) (by rw [hy2]; omega) (by unfold maxLen; omega) (Nat.le_refl _) ?_; intro w4 hown4 hg4; obtain ⟨z, hz, hcv⟩ := conv_zeros' hown4; have HB4 := Lib.hid (HB3.out.grown hg4 HB3.out.size (fun k hk => by cases hk)); clear hown4 hg4)
    go_ret
    exact ⟨⟨z, by omega, rfl⟩, HB4.out⟩

theorem vAt_calls (ao : Option Addr) (n c i : Nat) (w : World) (hc : CodeIn w (.slice ao n c) n) (hn : n ≤ 65536) (hi : i ≤ 1000) :
    Calls Tryd.prog 21 #[.slice ao n c, .int .i64 i] w fun e w' => (∃ r : Nat, r < 256 ∧ e = .returned (.int .i64 r)) ∧ w = w' := by
  have b0 : (0 : Int) ≤ i := by omega
  by_cases h : i < n
  · rcases hc with ⟨_, _, _, h0⟩ | ⟨b, off, c', he, hp, hcell⟩
    · omega
    · cases he
      obtain ⟨x, hx, hxc⟩ := hcell i h
      have b1 : (i : Int) < n := by omega
      go_enter Tryd.func21, Tryd.ntmps21
      go_wp2
      go_ret
      exact ⟨⟨x, hx, rfl⟩, rfl⟩
  · clear hc
    have b1 : ¬ (i : Int) < n := by omega
    go_enter Tryd.func21, Tryd.ntmps21
    go_wp2
    go_ret
    exact ⟨⟨(i * 7 + n) % 256, Nat.mod_lt _ (by omega), ret_int (by simp)⟩, rfl⟩

end Go.Proofs.YtjildaahoclojaaDoor
