/- The draws of chapter 2 that give texts, and tops and powers. -/
import Derived.Test.YtlblkmhiildgeaaDoorDyAny
import Derived.Test.YtlblkmhiildgeaaDoorDyTxt
namespace Go.Proofs.YtlblkmhiildgeaaDoor
open Go.RowKit
set_option linter.unusedVariables false

theorem ext_le (a : ByteArray) (i j : Nat) : (a.extract i j).size ≤ a.size := by
  rw [ByteArray.size_extract]
  omega

theorem sp3 (s u : ByteArray) (a b c d : Nat) (hs : s.size ≤ 100) (hu : u.size ≤ 10) : (s.extract a b ++ u ++ s.extract c d).size ≤ 1000 := by
  rw [ByteArray.size_append, ByteArray.size_append]
  have h1 := ext_le s a b
  have h2 := ext_le s c d
  omega
theorem sp2 (s : ByteArray) (a b c d : Nat) (hs : s.size ≤ 100) : (s.extract a b ++ s.extract c d).size ≤ 1000 := by
  rw [ByteArray.size_append]
  have h1 := ext_le s a b
  have h2 := ext_le s c d
  omega
theorem spU (a b c d : Nat) : (((⟨#[45, 47, 48, 50]⟩ : ByteArray).extract a b).extract c d).size ≤ 10 := Nat.le_trans (ext_le _ _ _) (Nat.le_trans (ext_le _ _ _) (by decide))

theorem cur_drewN {W0 W : World} {q N : Nat} {v : Value} (k : Nat) (h : Cur W0 W q v N) : Cur W0 (W.drewN k) q v N := by
  obtain ⟨h1, h2, a, h3, s, hs⟩ := h
  exact ⟨h1, Below.drawn h2 k, a, h3, s, hs⟩
theorem grown_drewN {w W : World} {row : Option Nat} (k : Nat) (h : w.grownBy W row) : w.grownBy (W.drewN k) row := ⟨h.os, h.tape, h.output, h.size, h.block⟩

set_option maxHeartbeats 4000000 in
theorem spoilt_calls (W0 w : World) (q n N : Nat) (v : Value) (s : ByteArray) (hs : s.size ≤ 100) (hs0 : 0 < s.size) (hc : CodeIn W0 v n) (hn : n ≤ 1000000) (h : Cur W0 w q v N) (hN : N ≤ 70000) :
    Calls Tryd.prog 59 #[.pointer (some ⟨q, 0, none⟩), .string s, .string ⟨#[45, 47, 48, 50]⟩] w fun e w' => (∃ x : ByteArray, x.size ≤ 1000 ∧ e = .returned (.string x)) ∧ Cur W0 w' q v (N + 6) ∧ w.grownBy w' (some q) := by
  have HP : ∀ (W : World) (M m : Nat), M ≤ 90000 → 1 ≤ m → m ≤ 1000 → Cur W0 W q v M → Hid (Calls Tryd.prog 65 #[.pointer (some ⟨q, 0, none⟩), .int .i64 m] W fun e w' => (∃ r : Nat, r < m ∧ e = .returned (.int .i64 r)) ∧ Cur W0 w' q v (M + 2) ∧ W.grownBy w' (some q)) := fun W M m hM h1 h2 hW => Lib.hid (pick_calls W0 W q n M m v hc hn hW (by omega) h1 (by omega))
  have H := Lib.hid h
  have hne : s.toList.isEmpty = false := by
    rw [List.isEmpty_eq_false_iff, Lib.toList_data]
    intro e
    have : s.data.toList.length = 0 := by rw [e]; rfl
    have h2 : s.data.toList.length = s.size := rfl
    omega
  clear h hc hn
  go_enter Tryd.func59, Tryd.ntmps59
  go_wp2_with fail
  refine (HP w N s.size (by omega) hs0 (by omega) H.out).out.mono ?_
  rintro e w1 ⟨⟨i, hi, rfl⟩, hc1, hg1⟩
  have HC1 := Lib.hid hc1
  have HG1 := Lib.hid hg1
  clear hc1 hg1 H
  go_wp2_with fail
  refine (HP w1 (N + 2) 4 (by omega) (by omega) (by omega) HC1.out).out.mono ?_
  rintro e w2 ⟨⟨r, hr, rfl⟩, hc2, hg2⟩
  have HC2 := Lib.hid hc2
  have HG2 := Lib.hid (gtrans HG1.out hg2)
  clear hc2 hg2 HC1 HG1
  have b0 : (0 : Int) ≤ i := by omega
  have b1 : (i : Int) ≤ s.size := by omega
  have b2 : (i : Int) + 1 ≤ s.size := by omega
  have b3 : (0 : Int) ≤ r := by omega
  have b4 : (r : Int) ≤ 4 := by omega
  have b5 : (1 : Int) ≤ ((⟨#[45, 47, 48, 50]⟩ : ByteArray).extract r 4).size := by
    rw [ByteArray.size_extract]
    have : (⟨#[45, 47, 48, 50]⟩ : ByteArray).size = 4 := rfl
    omega
  have hU := spU r 4 0 1
  go_wp2_with fail
  generalize ((⟨#[45, 47, 48, 50]⟩ : ByteArray).extract r 4).extract 0 1 = u at hU ⊢
  refine (HP w2 (N + 4) 3 (by omega) (by omega) (by omega) HC2.out).out.mono ?_
  rintro e w3 ⟨⟨k, hk, rfl⟩, hc3, hg3⟩
  have HC3 := Lib.hid hc3
  have HG3 := Lib.hid (gtrans HG2.out hg3)
  have HU := Lib.hid hU
  have HSZ := Lib.hid hs
  clear hc3 hg3 HC2 HG2 HP b3 b4 b5 hr
  have b6 : (0 : Int) ≤ (i : Int) + 1 := by omega
  have b7 : IntKind.i64.wrap ((i : Int) + 1) = (i : Int) + 1 := IntWalk.i64_in _ (by omega)
  have b8 : ((i : Int) + 1).toNat = i + 1 := by omega
  obtain rfl | rfl | rfl : k = 0 ∨ k = 1 ∨ k = 2 := by omega
  all_goals
    clear hk
    go_wp2_with fail
    go_quiet (fail)
    go_wp2_with fail
    go_ret
    refine ⟨⟨_, ?_, rfl⟩, cur_drewN _ HC3.out, grown_drewN _ HG3.out⟩
    first
      | exact sp3 _ _ _ _ _ _ HSZ.out HU.out
      | exact sp2 _ _ _ _ _ HSZ.out

end Go.Proofs.YtlblkmhiildgeaaDoor
