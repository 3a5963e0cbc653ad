/- impl.SealText. -/
import Derived.Test.YtjildaahoclojaaDoorSumI
import Derived.Test.YtjildaahoclojaaDoorNumI
import Derived.Test.YtjildaahoclojaaDoorSealMath
import Derived.Test.YtjildaahoclojaaDoorShelf
namespace Go.Proofs.YtjildaahoclojaaDoor
open Go.RowKit

theorem contains35 (s : ByteArray) (w : World) (v : Bool) (h : hasB s.data.toList 35 = v) :
    Calls Tryd.prog 46 #[.string s, .string ⟨#[35]⟩] w fun e w' => e = .returned (.bool v) ∧ w = w' := by
  have := Tryd.strings_Contains_one s 35 w
  rw [contains_one, h] at this
  exact this.mono fun _ _ ⟨h1, h2⟩ => ⟨h1, h2.symm⟩

set_option maxHeartbeats 400000 in
theorem sealI_big (s : ByteArray) (w : World) (hs : s.size ≤ maxLen) (h : 4000 < s.size) :
    Calls Tryd.prog 18 #[.string s] w fun e w' => e = .returned (.tuple #[.string ⟨#[]⟩, .bool false]) ∧ Below w.heap.size w w' := by
  go_enter Tryd.func18, Tryd.ntmps18
  go_wp2_with (go_at_call 45; refine (sumOfI_big _ _ hs h).mono ?_; rintro e w' ⟨rfl, rfl⟩)
  go_ret2
  exact ⟨rfl, Below.refl _ _⟩

set_option maxHeartbeats 400000 in
theorem sealI_mark (s : ByteArray) (w : World) (h : s.size ≤ 4000) (hh : hasB s.data.toList 35 = true) :
    Calls Tryd.prog 18 #[.string s] w fun e w' => e = .returned (.tuple #[.string ⟨#[]⟩, .bool false]) ∧ Below w.heap.size w w' := by
  have HC := Lib.hid (contains35 s w true hh)
  clear hh
  go_enter Tryd.func18, Tryd.ntmps18
  go_wp2_with (first
    | (go_at_call 45; refine (sumOfI_ok _ _ h).mono ?_; rintro e w' ⟨rfl, rfl⟩)
    | (go_at_call 46; refine HC.out.mono ?_; rintro e w' ⟨rfl, rfl⟩))
  go_ret2
  exact ⟨rfl, Below.refl _ _⟩

/-- What the text with its seal comes to: too long, or the answer. -/
def SealEnd (s : ByteArray) (e : Ending) : Prop :=
  (4000 < (sealL s.data.toList).length → e = .returned (.tuple #[.string ⟨#[]⟩, .bool false])) ∧
    ((sealL s.data.toList).length ≤ 4000 → e = .returned (.tuple #[.string ⟨(sealL s.data.toList).toArray⟩, .bool true]))

set_option maxHeartbeats 400000 in
theorem sealI_rest (s : ByteArray) (w : World) (h : s.size ≤ 4000) (hh : hasB s.data.toList 35 = false) (htab : Lib.TabIs Tryd.prog w "internal/strconv.uint64pow10" .u64 Lib.pow10Tab) :
    Calls Tryd.prog 18 #[.string s] w fun e w' => SealEnd s e ∧ Below w.heap.size w w' := by
  have HC := Lib.hid (contains35 s w false hh)
  obtain ⟨hb0, hb1⟩ := sumL_bd s.data.toList
  have HI := Lib.hid (itoa_calls (sumL s.data.toList) (by omega) (by omega) w htab)
  have hl := itoa_sum_le s.data.toList
  have hE : s.size + 1 + (Lib.itoa (sumL s.data.toList)).length = (sealL s.data.toList).length := by
    simp [sealL]; omega
  have HE := Lib.hid hE
  have HB := Lib.hid (seal_ba s)
  clear hh htab hE
  go_enter Tryd.func18, Tryd.ntmps18
  go_wp2_with (first
    | (go_at_call 45; refine (sumOfI_ok _ _ h).mono ?_; rintro e w' ⟨rfl, rfl⟩)
    | (go_at_call 46; refine HC.out.mono ?_; rintro e w' ⟨rfl, rfl⟩)
    | (go_at_call 37; refine HI.out.mono ?_; rintro e w' ⟨rfl, hb⟩))
  · have hgt : (4000 : Int) < ↑s.size + 1 + ↑(Lib.itoa (sumL s.data.toList)).length := by assumption
    go_ret2
    exact ⟨⟨fun _ => rfl, fun hle => by have := HE.out; omega⟩, hb⟩
  · have hle : ↑s.size + 1 + ↑(Lib.itoa (sumL s.data.toList)).length ≤ (4000 : Int) := by assumption
    go_ret2
    exact ⟨⟨fun hgt => by have := HE.out; omega, fun _ => congrArg (fun b => Ending.returned (Value.tuple #[.string b, .bool true])) HB.out⟩, hb⟩

end Go.Proofs.YtjildaahoclojaaDoor
