/- The walk of laws.FnExactOpenText: both functions answer the same. -/
import Derived.Test.YtjildaahoclojaaDoorOpenS
import Derived.Test.YtjildaahoclojaaDoorOpenI
namespace Go.Proofs.YtjildaahoclojaaDoor
open Go.RowKit

theorem lt_of_cell {w : World} {b o : Nat} {v : Value} (h : w.cell? ⟨b, o, none⟩ = some v) : b < w.heap.size := by
  rcases Nat.lt_or_ge b w.heap.size with h1 | h1
  · exact h1
  · have h2 : w.heap[b]? = none := Array.getElem?_eq_none h1
    simp [World.cell?, h2] at h

theorem tabPow_lt {w : World} (h : Lib.TabIs Tryd.prog w "internal/strconv.uint64pow10" .u64 Lib.pow10Tab) (hg : Tryd.prog.globalNamed "internal/strconv.uint64pow10" = some 3) : 3 < w.heap.size :=
  lt_of_cell (h.cell hg 0 (by rw [Lib.pow10Tab_length]; omega))

/-- Both answer the same, as one fact. -/
theorem open_same (s : ByteArray) (hs : s.size ≤ 1048576) : ∃ r : ByteArray × Bool,
    (∀ w, Calls Tryd.prog 22 #[.string s] w fun e w' => e = .returned (.tuple #[.string r.1, .bool r.2]) ∧ Below w.heap.size w w') ∧
      (∀ w m, w.cell? ⟨2, 0, none⟩ = some (.int .i64 m) → Lib.TabIs Tryd.prog w "internal/strconv.uint64pow10" .u64 Lib.pow10Tab →
        Calls Tryd.prog 20 #[.string s] w fun e w' => e = .returned (.tuple #[.string r.1, .bool r.2]) ∧ Below w.heap.size w w') := by
  obtain ⟨p, hp⟩ : ∃ p : ByteArray, p = ⟨(preL s.data.toList 35).toArray⟩ := ⟨_, rfl⟩
  obtain ⟨q, hq⟩ : ∃ q : ByteArray, q = ⟨(sealL p.data.toList).toArray⟩ := ⟨_, rfl⟩
  have hps : p.size ≤ s.size := by
    have := preL_le s.data.toList 35
    have h1 : s.data.toList.length = s.size := by simp
    have h2 : p.size = (preL s.data.toList 35).length := by rw [hp]; exact List.size_toArray
    omega
  have hh : hasB p.data.toList 35 = false := by
    have : p.data.toList = preL s.data.toList 35 := by rw [hp]
    rw [this]
    exact preL_has _ _
  obtain ⟨b, hb, hI⟩ := sealI_any p q (by unfold maxLen; omega) hq hh
  obtain ⟨v, hv⟩ : ∃ v : Bool, (q.toList == s.toList) = v := ⟨_, rfl⟩
  have hvs : v = true → q = s := by
    intro h
    rw [h] at hv
    have e := beq_iff_eq.1 hv
    rw [Lib.toList_data, Lib.toList_data] at e
    exact ByteArray.ext (Array.toList_inj.mp e)
  by_cases h : 4000 < s.size
  · refine ⟨(⟨#[]⟩, false), fun w => openS_big s w (by unfold maxLen; omega) h, fun w m hm ht => ?_⟩
    have hbv : (b && v) = false := by
      cases v
      · simp
      · have e := hvs rfl
        have : ¬ b = true := fun hbt => by have := hb.1 hbt; rw [e] at this; omega
        simpa using this
    have := openI_calls s p q m w hs hp v hv b hI hm ht
    rw [hbv] at this
    exact this
  · refine ⟨(if v then p else ⟨#[]⟩, v), fun w => openS_at s p q w (by omega) hp hq v hv, fun w m hm ht => ?_⟩
    have hbv : (b && v) = v := by
      cases v
      · simp
      · have e := hvs rfl
        have : b = true := hb.2 (by rw [e]; omega)
        simp [this]
    have := openI_calls s p q m w hs hp v hv b hI hm ht
    rw [hbv] at this
    exact this

set_option maxHeartbeats 400000 in
theorem fnExactOpenText_walk (s : ByteArray) (hs : s.size ≤ maxLen) (w : World) (m : Int) (hm : w.cell? ⟨2, 0, none⟩ = some (.int .i64 m)) (hg : Tryd.prog.globalNamed "internal/strconv.uint64pow10" = some 3)
    (htab : Lib.TabIs Tryd.prog w "internal/strconv.uint64pow10" .u64 Lib.pow10Tab) :
    Calls Tryd.prog 9 #[.string s] w fun e w' => e = .returned (.bool true) ∧ Below w.heap.size w w' := by
  have hs' := hs
  unfold maxLen at hs'
  by_cases hA : (1048576 : Nat) < s.size
  · clear hm htab
    go_enter Tryd.func9, Tryd.ntmps9
    go_wp2_with fail
    go_ret
    exact ⟨rfl, Below.refl _ _⟩
  · obtain ⟨⟨r, b⟩, h1, h2⟩ := open_same s (by omega)
    have H1 := Lib.hid (h1 w)
    have H2 : Hid (∀ w', Below w.heap.size w w' → Calls Tryd.prog 20 #[.string s] w' fun e w'' => e = .returned (.tuple #[.string r, .bool b]) ∧ Below w'.heap.size w' w'') :=
      Lib.hid fun w' hb => h2 w' m ((hb.cell (p := ⟨2, 0, none⟩) (lt_of_cell hm)).trans hm) (tabIs_below hg (tabPow_lt htab hg) hb htab)
    clear h1 h2 hm htab
    go_enter Tryd.func9, Tryd.ntmps9
    go_wp2_with fail
    refine H1.out.mono ?_
    rintro e w1 ⟨rfl, hb1⟩
    have HB := Lib.hid hb1
    clear hb1
    go_wp2_with fail
    refine (H2.out _ HB.out).mono ?_
    rintro e w2 ⟨rfl, hb2⟩
    have HB2 := Lib.hid hb2
    clear hb2
    go_wp2_with fail
    go_ret
    exact ⟨rfl, HB.out.trans (HB2.out.mono HB.out.size)⟩

end Go.Proofs.YtjildaahoclojaaDoor
