/- spec.l1Read reads a numeral within bounds, and nothing else. -/
import Derived.Test.YtjildaahoclojaaDoorReadMath
import Derived.Test.YtjildaahoclojaaDoorNumS
import Derived.Test.YtjildaahoclojaaDoorOpenS
namespace Go.Proofs.YtjildaahoclojaaDoor
open Go.RowKit

/-- The number within bounds whose numeral the text is; or 0 and false, where there is none. -/
def ReadTo (l : List UInt8) (e : Ending) : Prop :=
  (∃ n, -999999 ≤ n ∧ n ≤ 999999 ∧ Lib.itoa n = l ∧ e = .returned (.tuple #[.int .i64 n, .bool true])) ∨
    ((∀ n, -999999 ≤ n → n ≤ 999999 → Lib.itoa n ≠ l) ∧ e = .returned (.tuple #[.int .i64 0, .bool false]))

theorem readTo_no {l t : List UInt8} (ht : t = tlL l) (h : ¬ (allDig t ∧ 1 ≤ t.length ∧ t.length ≤ 6)) : ReadTo l (.returned (.tuple #[.int .i64 0, .bool false])) := by
  refine Or.inr ⟨fun n h1 h2 e => h ?_, rfl⟩
  obtain ⟨a, b, c, _⟩ := itoa_read n h1 h2
  rw [e, ← ht] at a b c
  exact ⟨a, b, c⟩

/-- the number that the text spells, with its sign -/
def numOf (l t : List UInt8) : Int := if t.length < l.length then -(valL t : Int) else (valL t : Int)

theorem readTo_ne {l t : List UInt8} (ht : t = tlL l) (h : ¬ Lib.itoa (numOf l t) = l) : ReadTo l (.returned (.tuple #[.int .i64 0, .bool false])) := by
  refine Or.inr ⟨fun n h1 h2 e => h ?_, rfl⟩
  obtain ⟨_, _, _, d⟩ := itoa_read n h1 h2
  rw [e, ← ht] at d
  unfold numOf
  rw [← d]
  exact e

theorem numOf_bd {l t : List UInt8} (hd : allDig t) (hl : t.length ≤ 6) : -999999 ≤ numOf l t ∧ numOf l t ≤ 999999 := by
  have := valL_small t hd hl
  unfold numOf
  split <;> omega

theorem readTo_yes {l t : List UInt8} (hd : allDig t) (hl : t.length ≤ 6) (h : Lib.itoa (numOf l t) = l) : ReadTo l (.returned (.tuple #[.int .i64 (numOf l t), .bool true])) :=
  Or.inl ⟨_, (numOf_bd hd hl).1, (numOf_bd hd hl).2, h, rfl⟩


theorem l1In_yes (x a b : Int) (w : World) (h1 : a ≤ x) (h2 : x ≤ b) :
    Calls Tryd.prog 38 #[.int .i64 x, .int .i64 a, .int .i64 b] w fun e w' => e = .returned (.bool true) ∧ w = w' := by
  go_enter Tryd.func38, Tryd.ntmps38
  go_wp2
  go_ret
  exact ⟨rfl, rfl⟩

theorem l1In_lo (x a b : Int) (w : World) (h1 : ¬ a ≤ x) :
    Calls Tryd.prog 38 #[.int .i64 x, .int .i64 a, .int .i64 b] w fun e w' => e = .returned (.bool false) ∧ w = w' := by
  go_enter Tryd.func38, Tryd.ntmps38
  go_wp2
  go_ret
  exact ⟨rfl, rfl⟩

theorem l1In_hi (x a b : Int) (w : World) (h1 : a ≤ x) (h2 : ¬ x ≤ b) :
    Calls Tryd.prog 38 #[.int .i64 x, .int .i64 a, .int .i64 b] w fun e w' => e = .returned (.bool false) ∧ w = w' := by
  go_enter Tryd.func38, Tryd.ntmps38
  go_wp2
  go_ret
  exact ⟨rfl, rfl⟩

set_option maxHeartbeats 2000000 in
theorem l1Read_neg (s : ByteArray) (w : World) (hs : s.size ≤ 1048576) (h1 : 1 < s.size) (h2 : s[0] = 45) :
    Calls Tryd.prog 43 #[.string s] w fun e w' => ReadTo s.data.toList e ∧ ∃ m, w' = w.drewN m := by
  have ht : (s.extract 1 s.size).data.toList = tlL s.data.toList := by
    rw [Lib.extract_to_end]
    unfold tlL
    have h0 : s.data.toList[0]? = some 45 := by rw [← h2, List.getElem?_eq_getElem (by simp; omega)]; rfl
    rw [if_pos ⟨by simpa using h1, by rw [List.head?_eq_getElem?]; exact h0⟩, List.drop_one]
  have hsz : (s.extract 1 s.size).size = s.size - 1 := by simp
  obtain ⟨t, hte⟩ : ∃ t, t = s.extract 1 s.size := ⟨_, rfl⟩
  rw [← hte] at ht hsz
  have HT := Lib.hid ht
  have HE := Lib.hid hte
  have h3 : ((s[0].toNat : Int) == 45) = true := by rw [h2]; rfl
  have hts : t.size < s.size := by omega
  have HZ := Lib.hid hsz
  clear ht hte hsz h2
  by_cases hlo : 1 ≤ t.size
  · by_cases hhi : t.size ≤ 6
    · go_enter Tryd.func43, Tryd.ntmps43
      go_wp2_with fail
      rw [← HE.out, ← HZ.out]
      refine (l1In_yes _ _ _ w (by omega) (by omega)).mono ?_
      rintro e w1 ⟨rfl, rfl⟩
      go_wp2_with fail
      go_loop [5, 6] (fun n i => ∃ k : Nat, k ≤ t.size ∧ i = .int .i64 k ∧ n = .int .i64 ((valL (t.data.toList.take k) : Nat) : Int) ∧ Hid (allDig (t.data.toList.take k))) (fun _ i => t.size - (intOf i).toNat)
      case atStart => exact ⟨0, Nat.zero_le _, rfl, rfl, Lib.hid (fun c hc => by simp at hc)⟩
      case round =>
        obtain ⟨k, hk, rfl, rfl, hd⟩ := hrel
        by_cases hlt : k < t.size
        · by_cases hc0 : t[k].toNat < 48
          · have hn : ReadTo s.data.toList (.returned (.tuple #[.int .i64 0, .bool false])) := readTo_no HT.out (fun hh => by
              have := hh.1 t[k] (List.getElem_mem (l := t.data.toList) (n := k) (by simpa using hlt))
              unfold isDig at this
              omega)
            have HN := Lib.hid hn
            have hc1 : (t[k].toNat : Int) < 48 := by omega
            clear hn hc0 hd
            go_wp2_with fail
            go_ret2
            exact ⟨HN.out, 0, rfl⟩
          · by_cases hc9 : 57 < t[k].toNat
            · have hn : ReadTo s.data.toList (.returned (.tuple #[.int .i64 0, .bool false])) := readTo_no HT.out (fun hh => by
                have := hh.1 t[k] (List.getElem_mem (l := t.data.toList) (n := k) (by simpa using hlt))
                unfold isDig at this
                omega)
              have HN := Lib.hid hn
              have hc1 : ¬ (t[k].toNat : Int) < 48 := by omega
              have hc2 : (57 : Int) < t[k].toNat := by omega
              clear hn hc0 hd
              go_wp2_with fail
              go_ret2
              exact ⟨HN.out, 0, rfl⟩
            · have hd2 : Hid (allDig (t.data.toList.take (k + 1))) := by
                rw [take_snoc t k hlt]
                exact Lib.hid (allDig_snoc.2 ⟨hd.out, by unfold isDig; omega⟩)
              have hv : Hid (((valL (t.data.toList.take (k + 1)) : Nat) : Int) = 10 * ((valL (t.data.toList.take k) : Nat) : Int) + ((t[k].toNat : Int) - 48)) := by
                rw [take_snoc t k hlt, valL_snoc]
                exact Lib.hid (by omega)
              have hb := valL_small _ hd.out (by rw [List.length_take]; omega)
              have hc1 : ¬ (t[k].toNat : Int) < 48 := by omega
              have hc2 : ¬ (57 : Int) < t[k].toNat := by omega
              clear hc0 hc9 hd
              go_wp2_with fail
              go_round
              case rel => exact ⟨k + 1, by omega, by go_num, by rw [hv.out], hd2⟩
              case measure => simp [intOf]; omega
        · have hkn : k = t.size := by omega
          subst hkn
          have hd2 : allDig t.data.toList := by have := hd.out; rwa [take_all] at this
          have hl6 : t.data.toList.length ≤ 6 := by simpa using hhi
          have hbd := numOf_bd (l := s.data.toList) hd2 hl6
          have hval : Hid (valL (t.data.toList.take t.size) = valL t.data.toList) := Lib.hid (by rw [take_all])
          have hvb := valL_small _ hd2 hl6
          have hneg : Hid (-((valL t.data.toList : Nat) : Int) = numOf s.data.toList t.data.toList) := by
            unfold numOf
            rw [if_pos (by simpa using hts)]
            exact Lib.hid rfl
          have HD := Lib.hid hd2
          clear hd hd2
          rw [hval.out]
          have c1 : -9223372036854775 ≤ numOf s.data.toList t.data.toList := by omega
          have c2 : numOf s.data.toList t.data.toList ≤ 9223372036854775 := by omega
          have HCN := Lib.hid (l1Num_any (numOf s.data.toList t.data.toList) w c1 c2)
          by_cases he : Lib.itoa (numOf s.data.toList t.data.toList) = s.data.toList
          · have heq : ((⟨(Lib.itoa (numOf s.data.toList t.data.toList)).toArray⟩ : ByteArray).toList == s.toList) = true := str_eq (by rw [he])
            have HY := Lib.hid (readTo_yes HD.out hl6 he)
            generalize (⟨(Lib.itoa (numOf s.data.toList t.data.toList)).toArray⟩ : ByteArray) = q at heq HCN
            clear he hbd c1 c2 hl6
            generalize numOf s.data.toList t.data.toList = v at *
            go_wp2_with fail
            rw [hneg.out]
            refine HCN.out.mono ?_
            rintro e w1 ⟨rfl, m, rfl⟩
            go_wp2_with fail
            go_ret2
            exact ⟨HY.out, _, rfl⟩
          · have heq : ((⟨(Lib.itoa (numOf s.data.toList t.data.toList)).toArray⟩ : ByteArray).toList == s.toList) = false := str_ne (fun e => he (by have := congrArg (fun b : ByteArray => b.data.toList) e; simpa using this))
            have HY := Lib.hid (readTo_ne HT.out he)
            generalize (⟨(Lib.itoa (numOf s.data.toList t.data.toList)).toArray⟩ : ByteArray) = q at heq HCN
            clear he hbd c1 c2 hl6
            generalize numOf s.data.toList t.data.toList = v at *
            go_wp2_with fail
            rw [hneg.out]
            refine HCN.out.mono ?_
            rintro e w1 ⟨rfl, m, rfl⟩
            go_wp2_with fail
            go_ret2
            exact ⟨HY.out, _, rfl⟩
    · have HN := Lib.hid (readTo_no HT.out (fun hh => by have := hh.2.2; simp at this; omega))
      go_enter Tryd.func43, Tryd.ntmps43
      go_wp2_with fail
      rw [← HE.out, ← HZ.out]
      refine (l1In_hi _ _ _ w (by omega) (by omega)).mono ?_
      rintro e w1 ⟨rfl, rfl⟩
      go_wp2_with fail
      go_ret2
      exact ⟨HN.out, 0, rfl⟩
  · have HN := Lib.hid (readTo_no HT.out (fun hh => by have := hh.2.1; simp at this; omega))
    go_enter Tryd.func43, Tryd.ntmps43
    go_wp2_with fail
    rw [← HE.out, ← HZ.out]
    refine (l1In_lo _ _ _ w (by omega)).mono ?_
    rintro e w1 ⟨rfl, rfl⟩
    go_wp2_with fail
    go_ret2
    exact ⟨HN.out, 0, rfl⟩

set_option maxHeartbeats 2000000 in
theorem l1Read_short (t : ByteArray) (w : World) (hs : t.size ≤ 1048576) (h1 : t.size ≤ 1) :
    Calls Tryd.prog 43 #[.string t] w fun e w' => ReadTo t.data.toList e ∧ ∃ m, w' = w.drewN m := by
  have ht : t.data.toList = tlL t.data.toList := by
    unfold tlL
    rw [if_neg (by
      rintro ⟨a, _⟩
      simp at a
      omega)]
  have HT := Lib.hid ht
  clear ht
  by_cases hlo : 1 ≤ t.size
  · by_cases hhi : t.size ≤ 6
    · go_enter Tryd.func43, Tryd.ntmps43
      go_wp2_with fail
      refine (l1In_yes _ _ _ w (by omega) (by omega)).mono ?_
      rintro e w1 ⟨rfl, rfl⟩
      go_wp2_with fail
      go_loop [5, 6] (fun n i => ∃ k : Nat, k ≤ t.size ∧ i = .int .i64 k ∧ n = .int .i64 ((valL (t.data.toList.take k) : Nat) : Int) ∧ Hid (allDig (t.data.toList.take k))) (fun _ i => t.size - (intOf i).toNat)
      case atStart => exact ⟨0, Nat.zero_le _, rfl, rfl, Lib.hid (fun c hc => by simp at hc)⟩
      case round =>
        obtain ⟨k, hk, rfl, rfl, hd⟩ := hrel
        by_cases hlt : k < t.size
        · by_cases hc0 : t[k].toNat < 48
          · have hn : ReadTo t.data.toList (.returned (.tuple #[.int .i64 0, .bool false])) := readTo_no HT.out (fun hh => by
              have := hh.1 t[k] (List.getElem_mem (l := t.data.toList) (n := k) (by simpa using hlt))
              unfold isDig at this
              omega)
            have HN := Lib.hid hn
            have hc1 : (t[k].toNat : Int) < 48 := by omega
            clear hn hc0 hd
            go_wp2_with fail
            go_ret2
            exact ⟨HN.out, 0, rfl⟩
          · by_cases hc9 : 57 < t[k].toNat
            · have hn : ReadTo t.data.toList (.returned (.tuple #[.int .i64 0, .bool false])) := readTo_no HT.out (fun hh => by
                have := hh.1 t[k] (List.getElem_mem (l := t.data.toList) (n := k) (by simpa using hlt))
                unfold isDig at this
                omega)
              have HN := Lib.hid hn
              have hc1 : ¬ (t[k].toNat : Int) < 48 := by omega
              have hc2 : (57 : Int) < t[k].toNat := by omega
              clear hn hc0 hd
              go_wp2_with fail
              go_ret2
              exact ⟨HN.out, 0, rfl⟩
            · have hd2 : Hid (allDig (t.data.toList.take (k + 1))) := by
                rw [take_snoc t k hlt]
                exact Lib.hid (allDig_snoc.2 ⟨hd.out, by unfold isDig; omega⟩)
              have hv : Hid (((valL (t.data.toList.take (k + 1)) : Nat) : Int) = 10 * ((valL (t.data.toList.take k) : Nat) : Int) + ((t[k].toNat : Int) - 48)) := by
                rw [take_snoc t k hlt, valL_snoc]
                exact Lib.hid (by omega)
              have hb := valL_small _ hd.out (by rw [List.length_take]; omega)
              have hc1 : ¬ (t[k].toNat : Int) < 48 := by omega
              have hc2 : ¬ (57 : Int) < t[k].toNat := by omega
              clear hc0 hc9 hd
              go_wp2_with fail
              go_round
              case rel => exact ⟨k + 1, by omega, by go_num, by rw [hv.out], hd2⟩
              case measure => simp [intOf]; omega
        · have hkn : k = t.size := by omega
          subst hkn
          have hd2 : allDig t.data.toList := by have := hd.out; rwa [take_all] at this
          have hl6 : t.data.toList.length ≤ 6 := by simpa using hhi
          have hbd := numOf_bd (l := t.data.toList) hd2 hl6
          have hval : Hid (valL (t.data.toList.take t.size) = valL t.data.toList) := Lib.hid (by rw [take_all])
          have hvb := valL_small _ hd2 hl6
          have hneg : Hid (((valL t.data.toList : Nat) : Int) = numOf t.data.toList t.data.toList) := by
            unfold numOf
            rw [if_neg (by omega)]
            exact Lib.hid rfl
          have HD := Lib.hid hd2
          clear hd hd2
          rw [hval.out]
          have c1 : -9223372036854775 ≤ numOf t.data.toList t.data.toList := by omega
          have c2 : numOf t.data.toList t.data.toList ≤ 9223372036854775 := by omega
          have HCN := Lib.hid (l1Num_any (numOf t.data.toList t.data.toList) w c1 c2)
          by_cases he : Lib.itoa (numOf t.data.toList t.data.toList) = t.data.toList
          · have heq : ((⟨(Lib.itoa (numOf t.data.toList t.data.toList)).toArray⟩ : ByteArray).toList == t.toList) = true := str_eq (by rw [he])
            have HY := Lib.hid (readTo_yes HD.out hl6 he)
            generalize (⟨(Lib.itoa (numOf t.data.toList t.data.toList)).toArray⟩ : ByteArray) = q at heq HCN
            clear he hbd c1 c2 hl6
            generalize numOf t.data.toList t.data.toList = v at *
            go_wp2_with fail
            rw [hneg.out]
            refine HCN.out.mono ?_
            rintro e w1 ⟨rfl, m, rfl⟩
            go_wp2_with fail
            go_ret2
            exact ⟨HY.out, _, rfl⟩
          · have heq : ((⟨(Lib.itoa (numOf t.data.toList t.data.toList)).toArray⟩ : ByteArray).toList == t.toList) = false := str_ne (fun e => he (by have := congrArg (fun b : ByteArray => b.data.toList) e; simpa using this))
            have HY := Lib.hid (readTo_ne HT.out he)
            generalize (⟨(Lib.itoa (numOf t.data.toList t.data.toList)).toArray⟩ : ByteArray) = q at heq HCN
            clear he hbd c1 c2 hl6
            generalize numOf t.data.toList t.data.toList = v at *
            go_wp2_with fail
            rw [hneg.out]
            refine HCN.out.mono ?_
            rintro e w1 ⟨rfl, m, rfl⟩
            go_wp2_with fail
            go_ret2
            exact ⟨HY.out, _, rfl⟩
    · omega
  · have HN := Lib.hid (readTo_no HT.out (fun hh => by have := hh.2.1; simp at this; omega))
    go_enter Tryd.func43, Tryd.ntmps43
    go_wp2_with fail
    refine (l1In_lo _ _ _ w (by omega)).mono ?_
    rintro e w1 ⟨rfl, rfl⟩
    go_wp2_with fail
    go_ret2
    exact ⟨HN.out, 0, rfl⟩

set_option maxHeartbeats 2000000 in
theorem l1Read_plain (t : ByteArray) (w : World) (hs : t.size ≤ 1048576) (h1 : 1 < t.size) (h2 : ¬ t[0] = 45) :
    Calls Tryd.prog 43 #[.string t] w fun e w' => ReadTo t.data.toList e ∧ ∃ m, w' = w.drewN m := by
  have ht : t.data.toList = tlL t.data.toList := by
    unfold tlL
    rw [if_neg (by
      rintro ⟨_, a⟩
      rw [List.head?_eq_getElem?, List.getElem?_eq_getElem (by simp; omega)] at a
      exact h2 (Option.some.inj a))]
  have HT := Lib.hid ht
  have h3 : ((t[0].toNat : Int) == 45) = false := by
    rw [beq_eq_false_iff_ne]
    intro e
    exact h2 (UInt8.toNat_inj.1 (show t[0].toNat = 45 by omega))
  clear ht h2
  by_cases hlo : 1 ≤ t.size
  · by_cases hhi : t.size ≤ 6
    · go_enter Tryd.func43, Tryd.ntmps43
      go_wp2_with fail
      refine (l1In_yes _ _ _ w (by omega) (by omega)).mono ?_
      rintro e w1 ⟨rfl, rfl⟩
      go_wp2_with fail
      go_loop [5, 6] (fun n i => ∃ k : Nat, k ≤ t.size ∧ i = .int .i64 k ∧ n = .int .i64 ((valL (t.data.toList.take k) : Nat) : Int) ∧ Hid (allDig (t.data.toList.take k))) (fun _ i => t.size - (intOf i).toNat)
      case atStart => exact ⟨0, Nat.zero_le _, rfl, rfl, Lib.hid (fun c hc => by simp at hc)⟩
      case round =>
        obtain ⟨k, hk, rfl, rfl, hd⟩ := hrel
        by_cases hlt : k < t.size
        · by_cases hc0 : t[k].toNat < 48
          · have hn : ReadTo t.data.toList (.returned (.tuple #[.int .i64 0, .bool false])) := readTo_no HT.out (fun hh => by
              have := hh.1 t[k] (List.getElem_mem (l := t.data.toList) (n := k) (by simpa using hlt))
              unfold isDig at this
              omega)
            have HN := Lib.hid hn
            have hc1 : (t[k].toNat : Int) < 48 := by omega
            clear hn hc0 hd
            go_wp2_with fail
            go_ret2
            exact ⟨HN.out, 0, rfl⟩
          · by_cases hc9 : 57 < t[k].toNat
            · have hn : ReadTo t.data.toList (.returned (.tuple #[.int .i64 0, .bool false])) := readTo_no HT.out (fun hh => by
                have := hh.1 t[k] (List.getElem_mem (l := t.data.toList) (n := k) (by simpa using hlt))
                unfold isDig at this
                omega)
              have HN := Lib.hid hn
              have hc1 : ¬ (t[k].toNat : Int) < 48 := by omega
              have hc2 : (57 : Int) < t[k].toNat := by omega
              clear hn hc0 hd
              go_wp2_with fail
              go_ret2
              exact ⟨HN.out, 0, rfl⟩
            · have hd2 : Hid (allDig (t.data.toList.take (k + 1))) := by
                rw [take_snoc t k hlt]
                exact Lib.hid (allDig_snoc.2 ⟨hd.out, by unfold isDig; omega⟩)
              have hv : Hid (((valL (t.data.toList.take (k + 1)) : Nat) : Int) = 10 * ((valL (t.data.toList.take k) : Nat) : Int) + ((t[k].toNat : Int) - 48)) := by
                rw [take_snoc t k hlt, valL_snoc]
                exact Lib.hid (by omega)
              have hb := valL_small _ hd.out (by rw [List.length_take]; omega)
              have hc1 : ¬ (t[k].toNat : Int) < 48 := by omega
              have hc2 : ¬ (57 : Int) < t[k].toNat := by omega
              clear hc0 hc9 hd
              go_wp2_with fail
              go_round
              case rel => exact ⟨k + 1, by omega, by go_num, by rw [hv.out], hd2⟩
              case measure => simp [intOf]; omega
        · have hkn : k = t.size := by omega
          subst hkn
          have hd2 : allDig t.data.toList := by have := hd.out; rwa [take_all] at this
          have hl6 : t.data.toList.length ≤ 6 := by simpa using hhi
          have hbd := numOf_bd (l := t.data.toList) hd2 hl6
          have hval : Hid (valL (t.data.toList.take t.size) = valL t.data.toList) := Lib.hid (by rw [take_all])
          have hvb := valL_small _ hd2 hl6
          have hneg : Hid (((valL t.data.toList : Nat) : Int) = numOf t.data.toList t.data.toList) := by
            unfold numOf
            rw [if_neg (by omega)]
            exact Lib.hid rfl
          have HD := Lib.hid hd2
          clear hd hd2
          rw [hval.out]
          have c1 : -9223372036854775 ≤ numOf t.data.toList t.data.toList := by omega
          have c2 : numOf t.data.toList t.data.toList ≤ 9223372036854775 := by omega
          have HCN := Lib.hid (l1Num_any (numOf t.data.toList t.data.toList) w c1 c2)
          by_cases he : Lib.itoa (numOf t.data.toList t.data.toList) = t.data.toList
          · have heq : ((⟨(Lib.itoa (numOf t.data.toList t.data.toList)).toArray⟩ : ByteArray).toList == t.toList) = true := str_eq (by rw [he])
            have HY := Lib.hid (readTo_yes HD.out hl6 he)
            generalize (⟨(Lib.itoa (numOf t.data.toList t.data.toList)).toArray⟩ : ByteArray) = q at heq HCN
            clear he hbd c1 c2 hl6
            generalize numOf t.data.toList t.data.toList = v at *
            go_wp2_with fail
            rw [hneg.out]
            refine HCN.out.mono ?_
            rintro e w1 ⟨rfl, m, rfl⟩
            go_wp2_with fail
            go_ret2
            exact ⟨HY.out, _, rfl⟩
          · have heq : ((⟨(Lib.itoa (numOf t.data.toList t.data.toList)).toArray⟩ : ByteArray).toList == t.toList) = false := str_ne (fun e => he (by have := congrArg (fun b : ByteArray => b.data.toList) e; simpa using this))
            have HY := Lib.hid (readTo_ne HT.out he)
            generalize (⟨(Lib.itoa (numOf t.data.toList t.data.toList)).toArray⟩ : ByteArray) = q at heq HCN
            clear he hbd c1 c2 hl6
            generalize numOf t.data.toList t.data.toList = v at *
            go_wp2_with fail
            rw [hneg.out]
            refine HCN.out.mono ?_
            rintro e w1 ⟨rfl, m, rfl⟩
            go_wp2_with fail
            go_ret2
            exact ⟨HY.out, _, rfl⟩
    · have HN := Lib.hid (readTo_no HT.out (fun hh => by have := hh.2.2; simp at this; omega))
      go_enter Tryd.func43, Tryd.ntmps43
      go_wp2_with fail
      refine (l1In_hi _ _ _ w (by omega) (by omega)).mono ?_
      rintro e w1 ⟨rfl, rfl⟩
      go_wp2_with fail
      go_ret2
      exact ⟨HN.out, 0, rfl⟩
  · omega

theorem l1Read_calls (s : ByteArray) (w : World) (hs : s.size ≤ 1048576) :
    Calls Tryd.prog 43 #[.string s] w fun e w' => ReadTo s.data.toList e ∧ ∃ m, w' = w.drewN m := by
  by_cases h1 : 1 < s.size
  · by_cases h2 : s[0] = 45
    · exact l1Read_neg s w hs h1 h2
    · exact l1Read_plain s w hs h1 h2
  · exact l1Read_short s w hs (by omega)

/-- the pair that reading comes to -/
theorem readTo_pair {l : List UInt8} {e : Ending} (h : ReadTo l e) : ∃ n b, e = .returned (.tuple #[.int .i64 n, .bool b]) ∧ ReadTo l (.returned (.tuple #[.int .i64 n, .bool b])) := by
  rcases h with ⟨n, h1, h2, h3, rfl⟩ | ⟨h1, rfl⟩
  · exact ⟨n, true, rfl, Or.inl ⟨n, h1, h2, h3, rfl⟩⟩
  · exact ⟨0, false, rfl, Or.inr ⟨h1, rfl⟩⟩

set_option maxHeartbeats 400000 in
theorem readNumS_calls (s : ByteArray) (w : World) (hs : s.size ≤ 1048576) :
    Calls Tryd.prog 16 #[.string s] w fun e w' => ReadTo s.data.toList e ∧ ∃ m, w' = w.drewN m := by
  have HC := Lib.hid (l1Read_calls s w hs)
  go_enter Tryd.func16, Tryd.ntmps16
  go_wp2_with fail
  refine HC.out.mono ?_
  rintro e w1 ⟨hr, m, rfl⟩
  obtain ⟨n, b, rfl, hr2⟩ := readTo_pair hr
  have HR := Lib.hid hr2
  clear hr hr2
  go_wp2_with fail
  go_ret2
  exact ⟨HR.out, _, rfl⟩

end Go.Proofs.YtjildaahoclojaaDoor
