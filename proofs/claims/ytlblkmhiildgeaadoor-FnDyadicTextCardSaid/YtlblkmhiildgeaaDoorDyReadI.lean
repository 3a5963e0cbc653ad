/- impl.ReadDyadic. -/
import Derived.Test.YtlblkmhiildgeaaDoorDyDText
import Derived.Test.YtlblkmhiildgeaaDoorAtoi
namespace Go.Proofs.YtlblkmhiildgeaaDoor
open Go.RowKit
set_option linter.unusedVariables false

theorem reads_exists (l : List UInt8) : ∃ r, ReadsD l r := by
  by_cases h : ∃ (t : Int) (p : Nat), goodD t p = true ∧ textD t p = l
  · obtain ⟨t, p, h1, h2⟩ := h
    exact ⟨_, Or.inl ⟨t, p, h1, h2, rfl⟩⟩
  · exact ⟨_, Or.inr ⟨fun t p h1 h2 => h ⟨t, p, h1, h2⟩, rfl⟩⟩

theorem reads_top {l : List UInt8} {t : Int} {p : Nat} (hg : goodD t p = true) (h : textD t p = l) : Lib.atoiAll (preL l 47) = .ok t := by
  obtain ⟨h1, h2, _, _, _⟩ := goodD_iff.1 hg
  rw [← h, preL_textD]
  exact atoi_itoa2 t (by omega) (by omega)

/-- no number's text begins so -/
theorem reads_zero {l : List UInt8} {r : Int × Int × Bool} (h : ReadsD l r) (hn : ∀ v, Lib.atoiAll (preL l 47) ≠ .ok v) : r = (0, 0, false) := by
  rcases h with ⟨t, p, hg, ht, rfl⟩ | ⟨_, rfl⟩
  · exact absurd (reads_top hg ht) (hn t)
  · rfl
/-- none of the levels serves -/
theorem reads_end {l : List UInt8} {r : Int × Int × Bool} {v : Int} (h : ReadsD l r) (hv : Lib.atoiAll (preL l 47) = .ok v) (hn : ∀ j : Nat, j < 17 → ¬ (goodD v j = true ∧ textD v j = l)) : r = (0, 0, false) := by
  rcases h with ⟨t, p, hg, ht, rfl⟩ | ⟨_, rfl⟩
  · have e := reads_top hg ht
    rw [hv] at e
    injection e with e
    subst e
    obtain ⟨_, _, _, h4, _⟩ := goodD_iff.1 hg
    exact absurd ⟨hg, ht⟩ (hn p (by omega))
  · rfl
theorem reads_yes {l : List UInt8} {r : Int × Int × Bool} {v : Int} {k : Nat} (h : ReadsD l r) (hg : goodD v k = true) (ht : textD v k = l) : r = (v, (k : Int), true) := ReadsD.same h (Or.inl ⟨v, k, hg, ht, rfl⟩)

theorem bt_eq {l : List UInt8} {s : ByteArray} (h : l = s.data.toList) : ((bt l).toList == s.toList) = true := by
  rw [beq_iff_eq, Lib.toList_data, Lib.toList_data, ← h]
  rfl
theorem bt_ne {l : List UInt8} {s : ByteArray} (h : l ≠ s.data.toList) : ((bt l).toList == s.toList) = false := by
  rw [beq_eq_false_iff_ne, Lib.toList_data, Lib.toList_data]
  intro e
  exact h e

theorem cut47 (s : ByteArray) (m : Int) (w : World) (hs : s.size ≤ 1048576) (hm : w.cell? ⟨2, 0, none⟩ = some (.int .i64 m)) :
    Calls Tryd.prog 60 #[.string s, .string ⟨#[47]⟩] w fun e w' => (∃ r b, e = .returned (.tuple #[.string (bt (preL s.data.toList 47)), .string r, .bool b])) ∧ Below w.heap.size w w' := by
  refine (Tryd.strings_Cut s ⟨#[47]⟩ m w (by omega) hm).mono ?_
  rintro e w' ⟨he, n, rfl⟩
  have h1 : (Lib.cut s.data.toList (⟨#[47]⟩ : ByteArray).data.toList).1 = preL s.data.toList 47 := cut_pre _ _
  rw [h1] at he
  exact ⟨⟨_, _, he⟩, Below.drawn (Below.refl _ _) _⟩

/-- impl.DyadicText, whatever the number -/
theorem dtextI_any (v : Int) (k : Nat) (w : World) (hT : PowIs w) : Calls Tryd.prog 26 #[.agg #[.int .i64 v, .int .i64 k]] w fun e w' => e = .returned (.tuple #[.string (if goodD v k then bt (textD v k) else bt []), .bool (goodD v k)]) ∧ Below w.heap.size w w' := by
  by_cases hg : goodD v k = true
  · obtain ⟨h1, h2, h3, h4, _⟩ := goodD_iff.1 hg
    rw [hg]
    exact dtextI_yes v k w h1 h2 (by omega) hg hT
  · have hg2 : goodD v k = false := by simpa using hg
    rw [hg2]
    exact dtextI_no v k w hg2

set_option maxHeartbeats 2000000 in
theorem readI_any (s : ByteArray) (m : Int) (r : Int × Int × Bool) (w : World) (hs : s.size ≤ 1048576) (hr : ReadsD s.data.toList r) (hE : ErrVars w) (hT : PowIs w) (hm : w.cell? ⟨2, 0, none⟩ = some (.int .i64 m)) :
    Calls Tryd.prog 29 #[.string s] w fun e w' => e = .returned (.tuple #[.agg #[.int .i64 r.1, .int .i64 r.2.1], .bool r.2.2]) ∧ Below w.heap.size w w' := by
  have hml : 2 < w.heap.size := by
    rcases Nat.lt_or_ge 2 w.heap.size with h | h
    · exact h
    · have h2 : w.heap[2]? = none := Array.getElem?_eq_none h
      simp [World.cell?, h2] at hm
  have HC : ∀ W, Below w.heap.size w W → Hid (Calls Tryd.prog 60 #[.string s, .string ⟨#[47]⟩] W fun e w' => (∃ r b, e = .returned (.tuple #[.string (bt (preL s.data.toList 47)), .string r, .bool b])) ∧ Below W.heap.size W w') := fun W hb => Lib.hid (cut47 s m W hs ((hb.cell (p := ⟨2, 0, none⟩) hml).trans hm))
  have hps : (bt (preL s.data.toList 47)).size ≤ 1048576 := by
    refine bt_len (Nat.le_trans (preL_le _ _) ?_)
    simpa using hs
  have hpl : (bt (preL s.data.toList 47)).data.toList = preL s.data.toList 47 := rfl
  by_cases hv : ∃ v, Lib.atoiAll (preL s.data.toList 47) = .ok v
  · obtain ⟨v, hv⟩ := hv
    have HA : ∀ W, Hid (Calls Tryd.prog 61 #[.string (bt (preL s.data.toList 47))] W fun e w' => e = .returned (.tuple #[.int .i64 v, .nilIface]) ∧ Below W.heap.size W w') := fun W => Lib.hid (atoi_ok _ v W hps (by rw [hpl]; exact hv))
    have HD : ∀ W (k : Nat), Below w.heap.size w W → Hid (Calls Tryd.prog 26 #[.agg #[.int .i64 v, .int .i64 k]] W fun e w' => e = .returned (.tuple #[.string (if goodD v k then bt (textD v k) else bt []), .bool (goodD v k)]) ∧ Below W.heap.size W w') := fun W k hb => Lib.hid (dtextI_any v k W (hT.below hb))
    have HE := Lib.hid fun hn => reads_end hr hv hn
    have HY : ∀ k : Nat, goodD v k = true → textD v k = s.data.toList → Hid (r = (v, (k : Int), true)) := fun k h1 h2 => Lib.hid (reads_yes hr h1 h2)
    clear hr hv hE hT hm hps hpl
    generalize bt (preL s.data.toList 47) = p at HC HA
    have hP0 := solo_start w (.int .i64 0) (.int .i64 0) 25
    go_enter Tryd.func29, Tryd.ntmps29
    go_wp2_with fail
    refine ((HC _ hP0.2.2.2.2.2).out).mono ?_
    rintro e w1 ⟨⟨rr, bb, rfl⟩, hb⟩
    have hP1 := solo_next hb hP0
    have hQ := hP1
    obtain ⟨c10, c11, c12, c13, c14, HB1⟩ := hQ
    clear hb HB1
    go_wp2_with fail
    refine ((HA _).out).mono ?_
    rintro e w2 ⟨rfl, hb⟩
    have hP2 := solo_next hb hP1
    have hQ := hP2
    obtain ⟨c20, c21, c22, c23, c24, HB2⟩ := hQ
    clear hb HB2
    go_wp2_with fail
    go_loopw [27] (fun x wr => ∃ k : Nat, x = .int .i64 k ∧ k ≤ 17 ∧ Hid (∀ j : Nat, j < k → ¬ (goodD v j = true ∧ textD v j = s.data.toList)) ∧ SoloS w wr) (fun x _ => 17 - (intOf x).toNat)
    case atStart => exact ⟨0, rfl, by omega, Lib.hid (fun j hj => by omega), hP2⟩
    case round =>
      obtain ⟨k, rfl, hk, hn, hP⟩ := hrel
      clear hP1 hP2 c10 c11 c12 c13 c14 c20 c21 c22 c23 c24 HA HC
      have hP1 := hP
      have hQ := hP
      obtain ⟨c10, c11, c12, c13, c14, HB1⟩ := hQ
      clear hP HB1
      by_cases hlt : k < 17
      · have hP1a := solo_alloc (o := .cells #[.int .i64 v, .int .i64 k] 25) hP1
        have HDk := (HD _ k hP1a.2.2.2.2.2)
        clear HD
        by_cases hg : goodD v k = true
        · rw [hg, if_pos rfl] at HDk
          by_cases ht : textD v k = s.data.toList
          · have he := bt_eq ht
            have hy := (HY k hg ht).out
            subst hy
            clear HE HY hn hg ht
            generalize (bt (textD v k)) = q at HDk he
            go_wp2_with fail
            refine (HDk.out).mono ?_
            rintro e w3 ⟨rfl, hb⟩
            have hP3 := solo_next hb hP1a
            have hQ := hP3
            obtain ⟨c30, c31, c32, c33, c34, HB3⟩ := hQ
            have hr3 := bcell hb
            clear hb HB3
            go_wp2_with fail
            refine bodyPost_ret (v := .tuple #[.agg #[.int .i64 v, .int .i64 k], .bool true]) (by simp [*, results, Tryd.results29, go_sem]) rfl ⟨rfl, ?_⟩
            exact (hP3.2.2.2.2.2.setCell (Nat.le_refl _) _).setCell (Nat.le_refl _) _
          · have he := bt_ne ht
            have hn2 : Hid (∀ j : Nat, j < k + 1 → ¬ (goodD v j = true ∧ textD v j = s.data.toList)) := Lib.hid (fun j hj => by
              by_cases e : j = k
              · rw [e]; exact fun h => ht h.2
              · exact hn.out j (by omega))
            clear HE HY hn hg ht
            generalize (bt (textD v k)) = q at HDk he
            go_wp2_with fail
            refine (HDk.out).mono ?_
            rintro e w3 ⟨rfl, hb⟩
            have hP3 := solo_next hb hP1a
            have hQ := hP3
            obtain ⟨c30, c31, c32, c33, c34, HB3⟩ := hQ
            have hr3 := bcell hb
            clear hb HB3
            go_wp2_with fail
            go_roundw
            case rel => exact ⟨k + 1, by go_num, by omega, hn2, hP3⟩
            case measure => simp [intOf]; omega
        · have hg2 : goodD v k = false := by simpa using hg
          have hn2 : Hid (∀ j : Nat, j < k + 1 → ¬ (goodD v j = true ∧ textD v j = s.data.toList)) := Lib.hid (fun j hj => by
            by_cases e : j = k
            · rw [e]; exact fun h => hg h.1
            · exact hn.out j (by omega))
          rw [hg2] at HDk
          clear HE HY hn hg hg2
          generalize (if false = true then bt (textD v k) else bt []) = q at HDk
          go_wp2_with fail
          refine (HDk.out).mono ?_
          rintro e w3 ⟨rfl, hb⟩
          have hP3 := solo_next hb hP1a
          have hQ := hP3
          obtain ⟨c30, c31, c32, c33, c34, HB3⟩ := hQ
          have hr3 := bcell hb
          clear hb HB3
          go_wp2_with fail
          go_roundw
          case rel => exact ⟨k + 1, by go_num, by omega, hn2, hP3⟩
          case measure => simp [intOf]; omega
      · obtain rfl : k = 17 := by omega
        obtain rfl := HE.out hn.out
        clear HE hn
        go_wp2_with fail
        refine bodyPost_ret (v := .tuple #[.agg #[.int .i64 0, .int .i64 0], .bool false]) (by simp [*, results, Tryd.results29, go_sem]) rfl ⟨rfl, ?_⟩
        exact (hP1.2.2.2.2.2.setCell (Nat.le_refl _) _).setCell (Nat.le_refl _) _
  · have HA : ∀ W, Below w.heap.size w W → Hid (Calls Tryd.prog 61 #[.string (bt (preL s.data.toList 47))] W fun e w' => (∃ n t N, e = .returned (.tuple #[.int .i64 n, .iface t (.pointer (some ⟨N, 0, none⟩))])) ∧ Below W.heap.size W w') := fun W hb => Lib.hid ((atoi_no _ W hps (hE.below hb) (fun v h => hv ⟨v, by rw [← hpl]; exact h⟩)).mono fun e w' ⟨n, t, N, h1, h2⟩ => ⟨⟨n, t, N, h1⟩, h2⟩)
    have hz := reads_zero hr (fun v h => hv ⟨v, h⟩)
    subst hz
    clear hr hv hE hT hm hps hpl
    generalize bt (preL s.data.toList 47) = p at HC HA
    have hP0 := solo_start w (.int .i64 0) (.int .i64 0) 25
    go_enter Tryd.func29, Tryd.ntmps29
    go_wp2_with fail
    refine ((HC _ hP0.2.2.2.2.2).out).mono ?_
    rintro e w1 ⟨⟨rr, bb, rfl⟩, hb⟩
    have hP1 := solo_next hb hP0
    have hQ := hP1
    obtain ⟨c10, c11, c12, c13, c14, HB1⟩ := hQ
    clear hb HB1
    go_wp2_with fail
    refine ((HA _ hP1.2.2.2.2.2).out).mono ?_
    rintro e w2 ⟨⟨nn, tt, NN, rfl⟩, hb⟩
    have hP2 := solo_next hb hP1
    have hQ := hP2
    obtain ⟨c20, c21, c22, c23, c24, HB2⟩ := hQ
    clear hb HB2
    go_wp2_with fail
    refine bodyPost_ret (v := .tuple #[.agg #[.int .i64 0, .int .i64 0], .bool false]) (by simp [*, results, Tryd.results29, go_sem]) rfl ⟨rfl, ?_⟩
    exact (hP2.2.2.2.2.2.setCell (Nat.le_refl _) _).setCell (Nat.le_refl _) _

end Go.Proofs.YtlblkmhiildgeaaDoor
