/- Both functions OpenText answer openR. -/
import Derived.Test.YtjildaahoclojaaDoorBentMath
import Derived.Test.YtjildaahoclojaaDoorWOpenText
namespace Go.Proofs.YtjildaahoclojaaDoor
open Go.RowKit

theorem open_is (s : ByteArray) (hs : s.size ≤ 1048576) :
    (∀ w, Calls Tryd.prog 22 #[.string s] w fun e w' => e = .returned (.tuple #[.string (openR s).1, .bool (openR s).2]) ∧ Below w.heap.size w w') ∧
      (∀ w m, w.cell? ⟨2, 0, none⟩ = some (.int .i64 m) → Lib.TabIs Tryd.prog w "internal/strconv.uint64pow10" .u64 Lib.pow10Tab →
        Calls Tryd.prog 20 #[.string s] w fun e w' => e = .returned (.tuple #[.string (openR s).1, .bool (openR s).2]) ∧ Below w.heap.size w w') := by
  obtain ⟨p, hp⟩ : ∃ p : ByteArray, p = ⟨(preL s.data.toList 35).toArray⟩ := ⟨_, rfl⟩
  obtain ⟨q, hq⟩ : ∃ q : ByteArray, q = ⟨(sealL p.data.toList).toArray⟩ := ⟨_, rfl⟩
  have hpd : p.data.toList = preL s.data.toList 35 := by rw [hp]
  have hqd : q.data.toList = sealL (preL s.data.toList 35) := by rw [hq, hpd]
  have hps : p.size ≤ s.size := by
    have := preL_le s.data.toList 35
    have h1 : s.data.toList.length = s.size := by simp
    have h2 : p.size = (preL s.data.toList 35).length := by rw [hp]; exact List.size_toArray
    omega
  have hh : hasB p.data.toList 35 = false := by rw [hpd]; exact preL_has _ _
  obtain ⟨b, hb, hI⟩ := sealI_any p q (by unfold maxLen; omega) hq hh
  obtain ⟨v, hv⟩ : ∃ v : Bool, (q.toList == s.toList) = v := ⟨_, rfl⟩
  have hvs : v = true ↔ sealL (preL s.data.toList 35) = s.data.toList := by
    rw [← hv, ← hqd, beq_iff_eq, Lib.toList_data, Lib.toList_data]
  have hqs : v = true → q.size = s.size := fun h => by
    have e := hvs.1 h
    rw [← hqd] at e
    have := congrArg List.length e
    simpa using this
  by_cases h : 4000 < s.size
  · have hr : openR s = (⟨#[]⟩, false) := by unfold openR; rw [if_neg (by omega)]
    rw [hr]
    refine ⟨fun w => openS_big s w (by unfold maxLen; omega) h, fun w m hm ht => ?_⟩
    have hbv : (b && v) = false := by
      cases v
      · simp
      · have e := hqs rfl
        have : ¬ b = true := fun hbt => by have := hb.1 hbt; omega
        simpa using this
    have := openI_calls s p q m w hs hp v hv b hI hm ht
    rw [hbv] at this
    exact this
  · have hr : openR s = (if v then p else ⟨#[]⟩, v) := by
      unfold openR
      cases v
      · rw [if_neg (fun hh => by have := hvs.2 hh.2; cases this)]
        rfl
      · rw [if_pos ⟨by omega, hvs.1 rfl⟩, hp]
        rfl
    rw [hr]
    refine ⟨fun w => openS_at s p q w (by omega) hp hq v hv, fun w m hm ht => ?_⟩
    have hbv : (b && v) = v := by
      cases v
      · simp
      · have e := hqs rfl
        have : b = true := hb.2 (by omega)
        simp [this]
    have := openI_calls s p q m w hs hp v hv b hI hm ht
    rw [hbv] at this
    exact this

end Go.Proofs.YtjildaahoclojaaDoor
