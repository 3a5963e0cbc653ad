/- impl.OpenText. -/
import Derived.Test.YtjildaahoclojaaDoorOpenMath
import Derived.Test.YtjildaahoclojaaDoorSealI
import Derived.Test.YtjildaahoclojaaDoorWSealText
import Derived.Test.YtjildaahoclojaaDoorOpenS
namespace Go.Proofs.YtjildaahoclojaaDoor
open Go.RowKit

theorem cut35 (s p : ByteArray) (m : Int) (w : World) (hp : p = ⟨(preL s.data.toList 35).toArray⟩) (hs : s.size ≤ 1048576) (hm : w.cell? ⟨2, 0, none⟩ = some (.int .i64 m)) :
    Calls Tryd.prog 49 #[.string s, .string ⟨#[35]⟩] w fun e w' => ∃ r b, e = .returned (.tuple #[.string p, .string r, .bool b]) ∧ ∃ n, w' = w.drewN n := by
  refine (Tryd.strings_Cut s ⟨#[35]⟩ m w (by omega) hm).mono ?_
  rintro e w' ⟨he, hw⟩
  have h1 : (Lib.cut s.data.toList (⟨#[35]⟩ : ByteArray).data.toList).1 = preL s.data.toList 35 := cut_pre _ _
  rw [h1, ← hp] at he
  exact ⟨_, _, he, hw⟩

/-- what impl.SealText answers, with what it says of the length -/
theorem sealI_any (p q : ByteArray) (hs : p.size ≤ maxLen) (hq : q = ⟨(sealL p.data.toList).toArray⟩) (hh : hasB p.data.toList 35 = false) : ∃ b : Bool,
    (b = true ↔ q.size ≤ 4000) ∧
      (∀ w, Lib.TabIs Tryd.prog w "internal/strconv.uint64pow10" .u64 Lib.pow10Tab → Calls Tryd.prog 18 #[.string p] w fun e w' => e = .returned (.tuple #[.string (if b then q else ⟨#[]⟩), .bool b]) ∧ Below w.heap.size w w') := by
  have hz : q.size = (sealL p.data.toList).length := by rw [hq]; exact List.size_toArray
  have hz2 : p.size ≤ (sealL p.data.toList).length := by simp [sealL]
  by_cases h : 4000 < p.size
  · exact ⟨false, by simp; omega, fun w _ => sealI_big p w hs h⟩
  · by_cases hl : 4000 < (sealL p.data.toList).length
    · exact ⟨false, by simp; omega, fun w ht => sealI_long p w (by omega) hh hl ht⟩
    · exact ⟨true, by simp; omega, fun w ht => by rw [hq]; exact sealI_ok p w (by omega) hh (by omega) ht⟩

set_option maxHeartbeats 400000 in
theorem openI_calls (s p q : ByteArray) (m : Int) (w : World) (h : s.size ≤ 1048576) (hp : p = ⟨(preL s.data.toList 35).toArray⟩) (v : Bool) (hv : (q.toList == s.toList) = v) (b : Bool)
    (hb : ∀ w, Lib.TabIs Tryd.prog w "internal/strconv.uint64pow10" .u64 Lib.pow10Tab → Calls Tryd.prog 18 #[.string p] w fun e w' => e = .returned (.tuple #[.string (if b then q else ⟨#[]⟩), .bool b]) ∧ Below w.heap.size w w')
    (hm : w.cell? ⟨2, 0, none⟩ = some (.int .i64 m)) (htab : Lib.TabIs Tryd.prog w "internal/strconv.uint64pow10" .u64 Lib.pow10Tab) :
    Calls Tryd.prog 20 #[.string s] w fun e w' => e = .returned (.tuple #[.string (if b && v then p else ⟨#[]⟩), .bool (b && v)]) ∧ Below w.heap.size w w' := by
  have HC := Lib.hid (cut35 s p m w hp h hm)
  have HS : ∀ n, Hid (Calls Tryd.prog 18 #[.string p] (w.drewN n) fun e w' => e = .returned (.tuple #[.string (if b then q else ⟨#[]⟩), .bool b]) ∧ Below w.heap.size (w.drewN n) w') := fun n => Lib.hid (hb _ htab)
  clear hp hb hm htab
  cases b
  · go_enter Tryd.func20, Tryd.ntmps20
    go_wp2_with (first
      | (go_at_call 49; refine HC.out.mono ?_; rintro e w' ⟨r, b2, rfl, n, rfl⟩)
      | (go_at_call 18; refine (HS _).out.mono ?_; rintro e w' ⟨rfl, hb⟩))
    go_ret2
    exact ⟨rfl, (Below.drewN (Below.refl _ _) _).trans hb⟩
  · cases v
    · go_enter Tryd.func20, Tryd.ntmps20
      go_wp2_with (first
        | (go_at_call 49; refine HC.out.mono ?_; rintro e w' ⟨r, b2, rfl, n, rfl⟩)
        | (go_at_call 18; refine (HS _).out.mono ?_; rintro e w' ⟨rfl, hb⟩))
      go_ret2
      exact ⟨rfl, (Below.drewN (Below.refl _ _) _).trans hb⟩
    · go_enter Tryd.func20, Tryd.ntmps20
      go_wp2_with (first
        | (go_at_call 49; refine HC.out.mono ?_; rintro e w' ⟨r, b2, rfl, n, rfl⟩)
        | (go_at_call 18; refine (HS _).out.mono ?_; rintro e w' ⟨rfl, hb⟩))
      go_ret2
      exact ⟨rfl, (Below.drewN (Below.refl _ _) _).trans hb⟩

end Go.Proofs.YtjildaahoclojaaDoor
