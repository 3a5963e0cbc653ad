/- The walk of laws.FnExactSealText: both functions answer the same. -/
import Derived.Test.YtjildaahoclojaaDoorSealS
import Derived.Test.YtjildaahoclojaaDoorSealI
import Derived.Test.YtjildaahoclojaaDoorWNumText
namespace Go.Proofs.YtjildaahoclojaaDoor
open Go.RowKit

theorem sealI_ok (s : ByteArray) (w : World) (h : s.size ≤ 4000) (hh : hasB s.data.toList 35 = false) (hl : (sealL s.data.toList).length ≤ 4000) (htab : Lib.TabIs Tryd.prog w "internal/strconv.uint64pow10" .u64 Lib.pow10Tab) :
    Calls Tryd.prog 18 #[.string s] w fun e w' => e = .returned (.tuple #[.string ⟨(sealL s.data.toList).toArray⟩, .bool true]) ∧ Below w.heap.size w w' :=
  (sealI_rest s w h hh htab).mono fun _ _ ⟨he, hb⟩ => ⟨he.2 hl, hb⟩

theorem sealI_long (s : ByteArray) (w : World) (h : s.size ≤ 4000) (hh : hasB s.data.toList 35 = false) (hl : 4000 < (sealL s.data.toList).length) (htab : Lib.TabIs Tryd.prog w "internal/strconv.uint64pow10" .u64 Lib.pow10Tab) :
    Calls Tryd.prog 18 #[.string s] w fun e w' => e = .returned (.tuple #[.string ⟨#[]⟩, .bool false]) ∧ Below w.heap.size w w' :=
  (sealI_rest s w h hh htab).mono fun _ _ ⟨he, hb⟩ => ⟨he.1 hl, hb⟩

/-- Both answer the same, as one fact: the model draws at most, the program lays new memory at most. -/
theorem seal_same (s : ByteArray) (hs : s.size ≤ maxLen) : ∃ r : ByteArray × Bool,
    (∀ w, Calls Tryd.prog 19 #[.string s] w fun e w' => e = .returned (.tuple #[.string r.1, .bool r.2]) ∧ ∃ m, w' = w.drewN m) ∧
      (∀ w, Lib.TabIs Tryd.prog w "internal/strconv.uint64pow10" .u64 Lib.pow10Tab → Calls Tryd.prog 18 #[.string s] w fun e w' => e = .returned (.tuple #[.string r.1, .bool r.2]) ∧ Below w.heap.size w w') := by
  by_cases h : 4000 < s.size
  · exact ⟨(⟨#[]⟩, false), fun w => sealS_big s w hs h, fun w _ => sealI_big s w hs h⟩
  · by_cases hh : hasB s.data.toList 35 = true
    · exact ⟨(⟨#[]⟩, false), fun w => sealS_mark s w (by omega) hh, fun w _ => sealI_mark s w (by omega) hh⟩
    · have hf : hasB s.data.toList 35 = false := by simpa using hh
      by_cases hl : 4000 < (sealL s.data.toList).length
      · exact ⟨(⟨#[]⟩, false), fun w => sealS_long s w (by omega) hf hl, fun w ht => sealI_long s w (by omega) hf hl ht⟩
      · exact ⟨(⟨(sealL s.data.toList).toArray⟩, true), fun w => sealS_ok s w (by omega) hf (by omega), fun w ht => sealI_ok s w (by omega) hf (by omega) ht⟩

set_option maxHeartbeats 400000 in
theorem fnExactSealText_walk (s : ByteArray) (hs : s.size ≤ maxLen) (w : World) (htab : Lib.TabIs Tryd.prog w "internal/strconv.uint64pow10" .u64 Lib.pow10Tab) :
    Calls Tryd.prog 8 #[.string s] w fun e w' => e = .returned (.bool true) ∧ Below w.heap.size w w' := by
  obtain ⟨⟨r, b⟩, h1, h2⟩ := seal_same s hs
  have H1 := Lib.hid h1
  have H2 := Lib.hid h2
  clear h1 h2
  have HT : ∀ m, Hid (Lib.TabIs Tryd.prog (w.drewN m) "internal/strconv.uint64pow10" .u64 Lib.pow10Tab) := fun m => Lib.hid htab
  clear htab
  have hs' := hs
  unfold maxLen at hs'
  by_cases hA : (1048576 : Nat) < s.size
  · go_enter Tryd.func8, Tryd.ntmps8
    go_wp2_with fail
    go_ret
    exact ⟨rfl, Below.refl _ _⟩
  · go_enter Tryd.func8, Tryd.ntmps8
    go_wp2_with (first
      | (go_at_call 19; refine (H1.out _).mono ?_; rintro e w' ⟨rfl, m, rfl⟩)
      | (go_at_call 18; refine (H2.out _ (HT _).out).mono ?_; rintro e w' ⟨rfl, hb⟩))
    go_ret
    exact ⟨rfl, (Below.drewN (Below.refl _ _) _).trans hb⟩

end Go.Proofs.YtjildaahoclojaaDoor
