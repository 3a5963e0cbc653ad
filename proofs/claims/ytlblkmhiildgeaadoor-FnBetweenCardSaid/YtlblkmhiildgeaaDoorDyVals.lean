/- What the functions of two numbers answer, whatever they are given. -/
import Derived.Test.YtlblkmhiildgeaaDoorDySum
import Derived.Test.YtlblkmhiildgeaaDoorDyCmp
import Derived.Test.YtlblkmhiildgeaaDoorDyArith
import Derived.Test.YtlblkmhiildgeaaDoorDyPlain
namespace Go.Proofs.YtlblkmhiildgeaaDoor
open Go.RowKit
set_option linter.unusedVariables false

def addV (ta pa tb pb : Int) : Int × Int × Bool := if goodD ta pa = true ∧ goodD tb pb = true then finD (mkD (sc ta pa.toNat + sc tb pb.toNat) 24) else (0, 0, false)
def cmpV (ta pa tb pb : Int) : Int × Bool := if goodD ta pa = true ∧ goodD tb pb = true then (ordD ta pa.toNat tb pb.toNat, true) else (0, false)
def halfV (t p : Int) : Int × Int × Bool := if goodD t p = true then finD (mkD t (p.toNat + 1)) else (0, 0, false)
def negV (t p : Int) : Int × Int × Bool := if goodD t p = true then (-t, p, true) else (0, 0, false)

theorem addI_all (ta pa tb pb : Int) (w : World) (hT : DeBr w) : Calls Tryd.prog 13 #[.agg #[.int .i64 ta, .int .i64 pa], .agg #[.int .i64 tb, .int .i64 pb]] w fun e w' => e = .returned (.tuple #[.agg #[.int .i64 (addV ta pa tb pb).1, .int .i64 (addV ta pa tb pb).2.1], .bool (addV ta pa tb pb).2.2]) ∧ Below w.heap.size w w' := by
  unfold addV
  by_cases ha : goodD ta pa = true
  · by_cases hb : goodD tb pb = true
    · obtain ⟨qa, rfl, a3, a1, a2, _⟩ := good_nat ha
      obtain ⟨qb, rfl, b3, b1, b2, _⟩ := good_nat hb
      rw [if_pos ⟨ha, hb⟩]
      exact addI_yes ta tb qa qb w hT a1 a2 a3 b1 b2 b3 ha hb
    · rw [if_neg (fun h => hb h.2)]
      exact addI_no2 ta pa tb pb w ha (by simpa using hb)
  · rw [if_neg (fun h => ha h.1)]
    exact addI_no1 ta pa tb pb w (by simpa using ha)

theorem addS_all (ta pa tb pb : Int) (w : World) : Calls Tryd.prog 14 #[.agg #[.int .i64 ta, .int .i64 pa], .agg #[.int .i64 tb, .int .i64 pb]] w fun e w' => e = .returned (.tuple #[.agg #[.int .i64 (addV ta pa tb pb).1, .int .i64 (addV ta pa tb pb).2.1], .bool (addV ta pa tb pb).2.2]) ∧ Below w.heap.size w w' := by
  unfold addV
  by_cases ha : goodD ta pa = true
  · by_cases hb : goodD tb pb = true
    · obtain ⟨qa, rfl, a3, a1, a2, _⟩ := good_nat ha
      obtain ⟨qb, rfl, b3, b1, b2, _⟩ := good_nat hb
      rw [if_pos ⟨ha, hb⟩]
      exact addS_yes ta tb qa qb w a1 a2 a3 b1 b2 b3 ha hb
    · rw [if_neg (fun h => hb h.2)]
      exact addS_no2 ta pa tb pb w ha (by simpa using hb)
  · rw [if_neg (fun h => ha h.1)]
    exact addS_no1 ta pa tb pb w (by simpa using ha)

theorem cmpI_all (ta pa tb pb : Int) (w : World) : Calls Tryd.prog 15 #[.agg #[.int .i64 ta, .int .i64 pa], .agg #[.int .i64 tb, .int .i64 pb]] w fun e w' => e = .returned (.tuple #[.int .i64 (cmpV ta pa tb pb).1, .bool (cmpV ta pa tb pb).2]) ∧ Below w.heap.size w w' := by
  unfold cmpV
  by_cases ha : goodD ta pa = true
  · by_cases hb : goodD tb pb = true
    · obtain ⟨qa, rfl, a3, a1, a2, _⟩ := good_nat ha
      obtain ⟨qb, rfl, b3, b1, b2, _⟩ := good_nat hb
      rw [if_pos ⟨ha, hb⟩]
      exact cmpI_yes ta tb qa qb w a1 a2 a3 b1 b2 b3 ha hb
    · rw [if_neg (fun h => hb h.2)]
      exact cmpI_no2 ta pa tb pb w ha (by simpa using hb)
  · rw [if_neg (fun h => ha h.1)]
    exact cmpI_no1 ta pa tb pb w (by simpa using ha)

theorem cmpS_all (ta pa tb pb : Int) (w : World) : Calls Tryd.prog 16 #[.agg #[.int .i64 ta, .int .i64 pa], .agg #[.int .i64 tb, .int .i64 pb]] w fun e w' => e = .returned (.tuple #[.int .i64 (cmpV ta pa tb pb).1, .bool (cmpV ta pa tb pb).2]) ∧ Below w.heap.size w w' := by
  unfold cmpV
  by_cases ha : goodD ta pa = true
  · by_cases hb : goodD tb pb = true
    · obtain ⟨qa, rfl, a3, a1, a2, _⟩ := good_nat ha
      obtain ⟨qb, rfl, b3, b1, b2, _⟩ := good_nat hb
      rw [if_pos ⟨ha, hb⟩]
      exact cmpS_yes ta tb qa qb w a1 a2 a3 b1 b2 b3 ha hb
    · rw [if_neg (fun h => hb h.2)]
      exact cmpS_no2 ta pa tb pb w ha (by simpa using hb)
  · rw [if_neg (fun h => ha h.1)]
    exact cmpS_no1 ta pa tb pb w (by simpa using ha)

theorem halfI_all (t p : Int) (w : World) (hT : DeBr w) : Calls Tryd.prog 17 #[.agg #[.int .i64 t, .int .i64 p]] w fun e w' => e = .returned (.tuple #[.agg #[.int .i64 (halfV t p).1, .int .i64 (halfV t p).2.1], .bool (halfV t p).2.2]) ∧ Below w.heap.size w w' := by
  unfold halfV
  by_cases ha : goodD t p = true
  · obtain ⟨q, rfl, a3, a1, a2, _⟩ := good_nat ha
    rw [if_pos ha]
    exact halfI_yes t q w a1 a2 a3 ha hT
  · rw [if_neg ha]
    exact halfI_no t p w (by simpa using ha)

theorem negI_all (t p : Int) (w : World) : Calls Tryd.prog 18 #[.agg #[.int .i64 t, .int .i64 p]] w fun e w' => e = .returned (.tuple #[.agg #[.int .i64 (negV t p).1, .int .i64 (negV t p).2.1], .bool (negV t p).2.2]) ∧ Below w.heap.size w w' := by
  unfold negV
  by_cases ha : goodD t p = true
  · rw [if_pos ha]
    exact negI_yes t p w ha
  · rw [if_neg ha]
    exact negI_no t p w (by simpa using ha)

theorem addV_comm (ta pa tb pb : Int) : addV tb pb ta pa = addV ta pa tb pb := by
  unfold addV
  by_cases h : goodD ta pa = true ∧ goodD tb pb = true
  · rw [if_pos h, if_pos ⟨h.2, h.1⟩, Int.add_comm]
  · rw [if_neg h, if_neg (fun k => h ⟨k.2, k.1⟩)]

theorem half_twice (t p : Int) (h : (halfV t p).2.2 = true) : addV (halfV t p).1 (halfV t p).2.1 (halfV t p).1 (halfV t p).2.1 = (t, p, true) := by
  unfold halfV at h ⊢
  by_cases ha : goodD t p = true
  · rw [if_pos ha] at h ⊢
    obtain ⟨q, rfl, a3, a1, a2, a4⟩ := good_nat ha
    unfold finD at h ⊢
    by_cases hg : goodD (mkD t (((q : Int)).toNat + 1)).1 (mkD t (((q : Int)).toNat + 1)).2 = true
    · rw [if_pos hg] at h ⊢
      simp only [Int.toNat_natCast] at hg ⊢
      unfold addV
      rw [if_pos ⟨hg, hg⟩]
      simp only [Int.toNat_natCast]
      have e : sc (mkD t (q + 1)).1 (mkD t (q + 1)).2 + sc (mkD t (q + 1)).1 (mkD t (q + 1)).2 = sc t q := by
        rw [sc_mkD (by omega)]
        unfold sc
        have : (2 : Int) ^ (24 - q) = 2 ^ (24 - (q + 1)) * 2 := by rw [show 24 - q = (24 - (q + 1)) + 1 by omega, Int.pow_succ]
        rw [this]
        generalize (2 : Int) ^ (24 - (q + 1)) = k
        rw [← Int.mul_assoc]
        omega
      rw [e, mkD_sc (by omega), mkD_canon a4]
      unfold finD
      rw [if_pos ha]
    · rw [if_neg hg] at h
      cases h
  · rw [if_neg ha] at h
    cases h

theorem neg_zero (t p : Int) (h : (negV t p).2.2 = true) : (addV t p (negV t p).1 (negV t p).2.1).1 = 0 ∧ (addV t p (negV t p).1 (negV t p).2.1).2.1 = 0 := by
  unfold negV at h ⊢
  by_cases ha : goodD t p = true
  · rw [if_pos ha]
    obtain ⟨q, rfl, a3, a1, a2, a4⟩ := good_nat ha
    have hn : goodD (-t) q = true := by
      rw [goodD_iff]
      omega
    unfold addV
    rw [if_pos ⟨ha, hn⟩]
    simp only [Int.toNat_natCast]
    have e : sc t q + sc (-t) q = 0 := by
      unfold sc
      rw [Int.neg_mul]
      omega
    rw [e, mkD_zero]
    exact ⟨rfl, rfl⟩
  · rw [if_neg ha] at h
    cases h

theorem cmp_facts (ta pa tb pb : Int) : (-1 ≤ (cmpV tb pb ta pa).1 ∧ (cmpV tb pb ta pa).1 ≤ 1) ∧ ((cmpV ta pa tb pb).2 = true → (cmpV ta pa tb pb).1 = -(cmpV tb pb ta pa).1 ∧ ((cmpV ta pa tb pb).1 = 0 ↔ (ta = tb ∧ pa = pb))) := by
  have ho : ∀ a b c d, -1 ≤ ordD a b c d ∧ ordD a b c d ≤ 1 := fun a b c d => by
    unfold ordD
    split
    · omega
    · split <;> omega
  unfold cmpV
  by_cases h : goodD ta pa = true ∧ goodD tb pb = true
  · rw [if_pos h, if_pos ⟨h.2, h.1⟩]
    refine ⟨ho _ _ _ _, fun _ => ?_⟩
    obtain ⟨qa, rfl, a3, a1, a2, a4⟩ := good_nat h.1
    obtain ⟨qb, rfl, b3, b1, b2, b4⟩ := good_nat h.2
    simp only [Int.toNat_natCast]
    unfold ordD
    have hi := fun e => sc_inj (ta := ta) (tb := tb) (pa := qa) (pb := qb) (by omega) (by omega) a4 b4 e
    have hr : ta = tb ∧ (qa : Int) = qb → sc ta qa = sc tb qb := by
      rintro ⟨rfl, e⟩
      obtain rfl : qa = qb := by omega
      rfl
    rcases Int.lt_trichotomy (sc ta qa) (sc tb qb) with k | k | k
    · rw [if_pos k, if_neg (by omega), if_pos k]
      refine ⟨rfl, fun e => absurd e (by omega), fun e => ?_⟩
      have := hr e
      omega
    · rw [if_neg (by omega), if_neg (by omega), if_neg (by omega), if_neg (by omega)]
      refine ⟨rfl, fun _ => ?_, fun _ => rfl⟩
      obtain ⟨k1, k2⟩ := hi k
      exact ⟨k1, by omega⟩
    · rw [if_neg (by omega), if_pos k, if_pos k]
      refine ⟨rfl, fun e => absurd e (by omega), fun e => ?_⟩
      have := hr e
      omega
  · rw [if_neg h, if_neg (fun k => h ⟨k.2, k.1⟩)]
    refine ⟨⟨by decide, by decide⟩, fun k => ?_⟩
    cases k

/-- numbers of two parts that lie where they lie -/
def Keeps (W : World) (l : List (Nat × Value × Value)) : Prop := ∀ x ∈ l, W.cell? ⟨x.1, 0, none⟩ = some x.2.1 ∧ W.cell? ⟨x.1, 1, none⟩ = some x.2.2
theorem keeps_next {W w1 : World} {l : List (Nat × Value × Value)} (hb : Below W.heap.size W w1) (h : Keeps W l) : Keeps w1 l := fun x hx => ⟨cell_on hb (h x hx).1, cell_on hb (h x hx).2⟩
theorem keeps_alloc {W : World} {l : List (Nat × Value × Value)} (x y : Value) (t : TypeId) (h : Keeps W l) : Keeps (W.alloc (.cells #[x, y] t)) ((W.heap.size, x, y) :: l) := by
  have hb : Below W.heap.size W (W.alloc (.cells #[x, y] t)) := (Below.refl _ _).alloc (Nat.le_refl _) _
  have e := heap_alloc_new W (.cells #[x, y] t)
  intro z hz
  rcases List.mem_cons.1 hz with rfl | hz
  · exact ⟨by simp only [World.cell?, e]; rfl, by simp only [World.cell?, e]; rfl⟩
  · exact keeps_next hb h z hz
theorem below_alloc {w W : World} {o : Obj} (h : Below w.heap.size w W) : Below w.heap.size w (W.alloc o) := h.alloc h.size _
theorem below_on {w W w1 : World} (h : Below w.heap.size w W) (hb : Below W.heap.size W w1) : Below w.heap.size w w1 := h.trans (hb.mono h.size)

theorem vBig_calls (ao : Option Addr) (n c : Nat) (w : World) : Calls Tryd.prog 11 #[.slice ao n c] w fun e w' => e = .returned (.bool (decide (65536 < n))) ∧ w = w' := by
  by_cases h : 65536 < n
  · have h2 : (65536 : Int) < n := by omega
    rw [decide_eq_true h]
    go_enter Tryd.func11, Tryd.ntmps11
    go_wp2
    go_ret
    exact ⟨rfl, rfl⟩
  · have h2 : ¬ (65536 : Int) < n := by omega
    rw [decide_eq_false h]
    go_enter Tryd.func11, Tryd.ntmps11
    go_wp2
    go_ret
    exact ⟨rfl, rfl⟩

end Go.Proofs.YtlblkmhiildgeaaDoor
