/- What the functions of texts answer, whatever they are given. -/
import Derived.Test.YtlblkmhiildgeaaDoorDyVals
import Derived.Test.YtlblkmhiildgeaaDoorDyReadS
import Derived.Test.YtlblkmhiildgeaaDoorDyReadI
import Derived.Test.YtlblkmhiildgeaaDoorDyDTextS
namespace Go.Proofs.YtlblkmhiildgeaaDoor
open Go.RowKit
set_option linter.unusedVariables false

def makeV (t p : Int) : Int × Int × Bool := if -1000000000 ≤ t ∧ t ≤ 1000000000 ∧ 0 ≤ p ∧ p ≤ 16 then finD (mkD t p.toNat) else (0, 0, false)
def textV (t p : Int) : ByteArray × Bool := if goodD t p = true then (bt (textD t p.toNat), true) else (⟨#[]⟩, false)

theorem makeI_all (t p : Int) (w : World) (hT : DeBr w) : Calls Tryd.prog 32 #[.int .i64 t, .int .i64 p] w fun e w' => e = .returned (.tuple #[.agg #[.int .i64 (makeV t p).1, .int .i64 (makeV t p).2.1], .bool (makeV t p).2.2]) ∧ Below w.heap.size w w' := by
  unfold makeV
  by_cases h : -1000000000 ≤ t ∧ t ≤ 1000000000 ∧ 0 ≤ p ∧ p ≤ 16
  · rw [if_pos h]
    obtain ⟨q, rfl⟩ : ∃ q : Nat, p = q := ⟨p.toNat, by omega⟩
    exact makeI_yes t q w h.1 h.2.1 (by omega) hT
  · rw [if_neg h]
    exact makeI_no t p w (by omega)

theorem makeS_all (t p : Int) (w : World) : Calls Tryd.prog 33 #[.int .i64 t, .int .i64 p] w fun e w' => e = .returned (.tuple #[.agg #[.int .i64 (makeV t p).1, .int .i64 (makeV t p).2.1], .bool (makeV t p).2.2]) ∧ Below w.heap.size w w' := by
  unfold makeV
  by_cases h : -1000000000 ≤ t ∧ t ≤ 1000000000 ∧ 0 ≤ p ∧ p ≤ 16
  · rw [if_pos h]
    obtain ⟨q, rfl⟩ : ∃ q : Nat, p = q := ⟨p.toNat, by omega⟩
    exact makeS_yes t q w h.1 h.2.1 (by omega)
  · rw [if_neg h]
    exact makeS_no t p w (by omega)

theorem dtextI_all (t p : Int) (w : World) (hT : PowIs w) : Calls Tryd.prog 26 #[.agg #[.int .i64 t, .int .i64 p]] w fun e w' => e = .returned (.tuple #[.string (textV t p).1, .bool (textV t p).2]) ∧ Below w.heap.size w w' := by
  unfold textV
  by_cases h : goodD t p = true
  · rw [if_pos h]
    obtain ⟨q, rfl, a3, a1, a2, _⟩ := good_nat h
    exact dtextI_yes t q w a1 a2 a3 h hT
  · rw [if_neg h]
    exact dtextI_no t p w (by simpa using h)

theorem dtextS_all (t p : Int) (w : World) : Calls Tryd.prog 27 #[.agg #[.int .i64 t, .int .i64 p]] w fun e w' => e = .returned (.tuple #[.string (textV t p).1, .bool (textV t p).2]) ∧ Below w.heap.size w w' := by
  unfold textV
  by_cases h : goodD t p = true
  · rw [if_pos h]
    obtain ⟨q, rfl, a3, a1, a2, _⟩ := good_nat h
    exact dtextS_yes t q w a1 a2 a3 h
  · rw [if_neg h]
    exact dtextS_no t p w (by simpa using h)

theorem make_facts (t p : Int) : goodD (makeV t p).1 (makeV t p).2.1 = true ∧ ((makeV t p).2.2 = false → (makeV t p).1 = 0 ∧ (makeV t p).2.1 = 0) := by
  have hf : ∀ x, goodD (finD x).1 (finD x).2.1 = true ∧ ((finD x).2.2 = false → (finD x).1 = 0 ∧ (finD x).2.1 = 0) := by
    intro x
    unfold finD
    by_cases h : goodD x.1 x.2 = true
    · rw [if_pos h]
      exact ⟨h, fun k => by cases k⟩
    · rw [if_neg h]
      exact ⟨by decide, fun _ => ⟨rfl, rfl⟩⟩
  unfold makeV
  split
  · exact hf _
  · exact ⟨by decide, fun _ => ⟨rfl, rfl⟩⟩

theorem bt_list (l : List UInt8) : (bt l).data.toList = l := by simp [bt]

/-- the text of a number is read as it, and no other text is there for none -/
theorem text_reads (t p : Int) : (textV t p).1.size ≤ 1000 ∧ (textV t p).2 = goodD t p ∧ ∃ r, ReadsD (textV t p).1.data.toList r ∧ r.2.2 = goodD t p ∧ (goodD t p = true → r.1 = t ∧ r.2.1 = p) := by
  unfold textV
  by_cases h : goodD t p = true
  · rw [if_pos h, h]
    obtain ⟨q, rfl, a3, a1, a2, _⟩ := good_nat h
    refine ⟨bt_len (Nat.le_trans (textD_len t q a1 a2 a3) (by omega)), rfl, (t, (q : Int), true), ?_, rfl, fun _ => ⟨rfl, rfl⟩⟩
    rw [Int.toNat_natCast, bt_list]
    exact Or.inl ⟨t, q, h, rfl, rfl⟩
  · have h2 : goodD t p = false := by simpa using h
    rw [if_neg h, h2]
    refine ⟨by decide, rfl, (0, 0, false), ?_, rfl, fun k => by cases k⟩
    obtain ⟨r, hr⟩ := reads_exists (⟨#[]⟩ : ByteArray).data.toList
    have e := reads_zero hr (fun v hv => by simp [preL, Lib.atoiAll] at hv)
    rw [← e]
    exact hr

end Go.Proofs.YtlblkmhiildgeaaDoor
