/- The simplest number between, and births, whatever the numbers. -/
import Derived.Test.YtlblkmhiildgeaaDoorDyVals
import Derived.Test.YtlblkmhiildgeaaDoorDyWBtw
import Derived.Test.YtlblkmhiildgeaaDoorDyBorn
namespace Go.Proofs.YtlblkmhiildgeaaDoor
open Go.RowKit
set_option linter.unusedVariables false

def btwV (ta pa tb pb : Int) : Int × Int × Bool := if goodD ta pa = true ∧ goodD tb pb = true ∧ sc ta pa.toNat < sc tb pb.toNat then finD (btw (sc ta pa.toNat) (sc tb pb.toNat)) else (0, 0, false)
def bornV (t p : Int) : Int × Bool := if goodD t p = true then (bornD t p.toNat, true) else (0, false)

theorem bornI_all (t p : Int) (w : World) : Calls Tryd.prog 24 #[.agg #[.int .i64 t, .int .i64 p]] w fun e w' => e = .returned (.tuple #[.int .i64 (bornV t p).1, .bool (bornV t p).2]) ∧ Below w.heap.size w w' := by
  unfold bornV
  by_cases h : goodD t p = true
  · rw [if_pos h]
    obtain ⟨q, rfl, a3, a1, a2, _⟩ := good_nat h
    exact bornOfI_yes t q w a1 a2 a3 h
  · rw [if_neg h]
    exact bornOfI_no t p w (by simpa using h)

theorem btwI_all (ta pa tb pb : Int) (w : World) (hT : DeBr w) : Calls Tryd.prog 20 #[.agg #[.int .i64 ta, .int .i64 pa], .agg #[.int .i64 tb, .int .i64 pb]] w fun e w' => e = .returned (.tuple #[.agg #[.int .i64 (btwV ta pa tb pb).1, .int .i64 (btwV ta pa tb pb).2.1], .bool (btwV ta pa tb pb).2.2]) ∧ Below w.heap.size w w' := by
  unfold btwV
  by_cases ha : goodD ta pa = true
  · by_cases hb : goodD tb pb = true
    · obtain ⟨qa, rfl, a3, a1, a2, ca⟩ := good_nat ha
      obtain ⟨qb, rfl, b3, b1, b2, cb⟩ := good_nat hb
      by_cases hlt : sc ta qa < sc tb qb
      · have ho : ordD ta qa tb qb = -1 := by unfold ordD; rw [if_pos hlt]
        rw [if_pos ⟨ha, hb, hlt⟩]
        exact betweenI_lt ta tb qa qb w a1 a2 a3 b1 b2 b3 hT (fun V => by have := cmpI_yes ta tb qa qb V a1 a2 a3 b1 b2 b3 ha hb; rw [ho] at this; exact this)
      · have ho : 0 ≤ ordD ta qa tb qb := by unfold ordD; rw [if_neg hlt]; split <;> omega
        rw [if_neg (fun h => hlt h.2.2)]
        exact betweenI_ge ta qa tb qb (ordD ta qa tb qb) w ho (fun V => cmpI_yes ta tb qa qb V a1 a2 a3 b1 b2 b3 ha hb)
    · have hb2 : goodD tb pb = false := by simpa using hb
      rw [if_neg (fun h => hb h.2.1)]
      exact betweenI_no ta pa tb pb w (fun V => cmpI_no2 _ _ _ _ V ha hb2)
  · have ha2 : goodD ta pa = false := by simpa using ha
    rw [if_neg (fun h => ha h.1)]
    exact betweenI_no ta pa tb pb w (fun V => cmpI_no1 _ _ _ _ V ha2)

theorem btwS_every (ta pa tb pb : Int) (w : World) : Calls Tryd.prog 21 #[.agg #[.int .i64 ta, .int .i64 pa], .agg #[.int .i64 tb, .int .i64 pb]] w fun e w' => e = .returned (.tuple #[.agg #[.int .i64 (btwV ta pa tb pb).1, .int .i64 (btwV ta pa tb pb).2.1], .bool (btwV ta pa tb pb).2.2]) ∧ Below w.heap.size w w' := by
  unfold btwV
  by_cases ha : goodD ta pa = true
  · by_cases hb : goodD tb pb = true
    · obtain ⟨qa, rfl, a3, a1, a2, ca⟩ := good_nat ha
      obtain ⟨qb, rfl, b3, b1, b2, cb⟩ := good_nat hb
      by_cases hlt : sc ta qa < sc tb qb
      · rw [if_pos ⟨ha, hb, hlt⟩]
        exact betweenS_lt ta tb qa qb w a1 a2 a3 b1 b2 b3 ha hb cb hlt
      · rw [if_neg (fun h => hlt h.2.2)]
        exact betweenS_ge ta tb qa qb w a1 a2 a3 b1 b2 b3 ha hb hlt
    · have hb2 : goodD tb pb = false := by simpa using hb
      rw [if_neg (fun h => hb h.2.1)]
      exact betweenS_no2 _ _ _ _ _ ha hb2
  · have ha2 : goodD ta pa = false := by simpa using ha
    rw [if_neg (fun h => ha h.1)]
    exact betweenS_no1 _ _ _ _ _ ha2

theorem ord_lt {a b : Int} {p q : Nat} : ordD a p b q = -1 ↔ sc a p < sc b q := by
  unfold ordD
  by_cases h : sc a p < sc b q
  · rw [if_pos h]; simp [h]
  · rw [if_neg h]
    constructor
    · intro e
      split at e <;> omega
    · intro e; exact absurd e h

theorem btw_bad (ta pa tb pb : Int) (h : (btwV ta pa tb pb).2.2 = false) : (btwV ta pa tb pb).1 = 0 ∧ (btwV ta pa tb pb).2.1 = 0 := by
  unfold btwV at h ⊢
  split
  · rename_i hc
    rw [if_pos hc] at h
    unfold finD at h ⊢
    split
    · rename_i hg
      rw [if_pos hg] at h
      cases h
    · exact ⟨rfl, rfl⟩
  · exact ⟨rfl, rfl⟩

theorem btw_facts (ta pa tb pb : Int) (h : (btwV ta pa tb pb).2.2 = true) :
    (cmpV ta pa (btwV ta pa tb pb).1 (btwV ta pa tb pb).2.1).1 = -1 ∧ (cmpV (btwV ta pa tb pb).1 (btwV ta pa tb pb).2.1 tb pb).1 = -1 ∧
    ∀ u q, (cmpV ta pa u q).2 = true → (cmpV ta pa u q).1 = -1 → (cmpV u q tb pb).1 = -1 → (u = (btwV ta pa tb pb).1 ∧ q = (btwV ta pa tb pb).2.1) ∨ (bornV (btwV ta pa tb pb).1 (btwV ta pa tb pb).2.1).1 < (bornV u q).1 := by
  by_cases hc : goodD ta pa = true ∧ goodD tb pb = true ∧ sc ta pa.toNat < sc tb pb.toNat
  · have e : btwV ta pa tb pb = finD (btw (sc ta pa.toNat) (sc tb pb.toNat)) := by unfold btwV; rw [if_pos hc]
    rw [e] at h ⊢
    obtain ⟨ha, hb, hlt⟩ := hc
    by_cases hg : goodD (btw (sc ta pa.toNat) (sc tb pb.toNat)).1 (btw (sc ta pa.toNat) (sc tb pb.toNat)).2 = true
    · have e2 : finD (btw (sc ta pa.toNat) (sc tb pb.toNat)) = ((btw (sc ta pa.toNat) (sc tb pb.toNat)).1, ((btw (sc ta pa.toNat) (sc tb pb.toNat)).2 : Int), true) := by unfold finD; rw [if_pos hg]
      rw [e2]
      have h16 : (btw (sc ta pa.toNat) (sc tb pb.toNat)).2 ≤ 16 := by have := goodD_iff.1 hg; omega
      obtain ⟨k1, k2⟩ := btw_between h16
      simp only
      refine ⟨?_, ?_, ?_⟩
      · unfold cmpV
        rw [if_pos ⟨ha, hg⟩]
        simp only [Int.toNat_natCast]
        exact ord_lt.2 k1
      · unfold cmpV
        rw [if_pos ⟨hg, hb⟩]
        simp only [Int.toNat_natCast]
        exact ord_lt.2 k2
      · intro u q h1 h2 h3
        by_cases hu : goodD u q = true
        · unfold cmpV at h2 h3
          rw [if_pos ⟨ha, hu⟩] at h2
          rw [if_pos ⟨hu, hb⟩] at h3
          obtain ⟨j, rfl, j3, j1, j2, jc⟩ := good_nat hu
          simp only [Int.toNat_natCast] at h2 h3
          have l1 := ord_lt.1 h2
          have l2 := ord_lt.1 h3
          by_cases hx : (u, j) = btw (sc ta pa.toNat) (sc tb pb.toNat)
          · left
            rw [← hx]
            exact ⟨rfl, rfl⟩
          · right
            unfold bornV
            rw [if_pos hg, if_pos hu]
            simp only [Int.toNat_natCast]
            exact born_least h16 j3 jc l1 l2 hx
        · exfalso
          unfold cmpV at h1
          rw [if_neg (fun k => hu k.2)] at h1
          cases h1
    · exfalso
      unfold finD at h
      rw [if_neg hg] at h
      cases h
  · exfalso
    unfold btwV at h
    rw [if_neg hc] at h
    cases h

end Go.Proofs.YtlblkmhiildgeaaDoor
