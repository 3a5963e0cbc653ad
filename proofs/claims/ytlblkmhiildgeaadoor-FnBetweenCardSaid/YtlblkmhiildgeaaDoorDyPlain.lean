/- Contracts of what both programs do with numbers: copies, equality, turning. -/
import Derived.Test.YtlblkmhiildgeaaDoorDyEq
namespace Go.Proofs.YtlblkmhiildgeaaDoor
open Go.RowKit

theorem toD_calls (t p : Int) (w : World) : Calls Tryd.prog 36 #[.agg #[.int .i64 t, .int .i64 p]] w fun e w' => e = .returned (.agg #[.int .i64 t, .int .i64 p]) ∧ Below w.heap.size w w' := by
  go_enter Tryd.func36, Tryd.ntmps36
  go_wp2
  refine bodyPost_ret (v := .agg #[.int .i64 t, .int .i64 p]) (by simp [*, results, Tryd.results36, go_sem]) rfl ⟨rfl, ?_⟩
  exact (((Below.refl _ _).alloc (Nat.le_refl _) _).alloc (by simp) _).alloc (by simp; omega) _

theorem negated_calls (t p : Int) (w : World) (h1 : -4000000000000000000 ≤ t) (h2 : t ≤ 4000000000000000000) : Calls Tryd.prog 47 #[.agg #[.int .i64 t, .int .i64 p]] w fun e w' => e = .returned (.agg #[.int .i64 (-t), .int .i64 p]) ∧ Below w.heap.size w w' := by
  go_enter Tryd.func47, Tryd.ntmps47
  go_wp2
  refine bodyPost_ret (v := .agg #[.int .i64 (-t), .int .i64 p]) (by simp [*, results, Tryd.results47, go_sem]) rfl ⟨rfl, ?_⟩
  exact ((Below.refl _ _).alloc (Nat.le_refl _) _).alloc (by simp) _

theorem l2Neg_calls (t p : Int) (w : World) (h1 : -4000000000000000000 ≤ t) (h2 : t ≤ 4000000000000000000) : Calls Tryd.prog 70 #[.agg #[.int .i64 t, .int .i64 p]] w fun e w' => e = .returned (.agg #[.int .i64 (-t), .int .i64 p]) ∧ Below w.heap.size w w' := by
  go_enter Tryd.func70, Tryd.ntmps70
  go_wp2
  refine bodyPost_ret (v := .agg #[.int .i64 (-t), .int .i64 p]) (by simp [*, results, Tryd.results70, go_sem]) rfl ⟨rfl, ?_⟩
  exact ((Below.refl _ _).alloc (Nat.le_refl _) _).alloc (by simp) _

theorem onlyGoodD_no (t p : Int) (f : Value) (w : World) (hg : goodD t p = false) : Calls Tryd.prog 46 #[.agg #[.int .i64 t, .int .i64 p], f] w fun e w' => e = .returned (.tuple #[.agg #[.int .i64 0, .int .i64 0], .bool false]) ∧ Below w.heap.size w w' := by
  go_enter Tryd.func46, Tryd.ntmps46
  go_wp2_with (go_at_call 34; refine (goodI_calls _ _ _).mono ?_; rintro e w1 ⟨rfl, hb⟩; obtain ⟨hc1, hf1⟩ := bcell hb; have hz1 := hb.size; (try simp at hz1); have hy1_0 : w.heap.size < w1.heap.size := (by omega); have hy1_1 : w.heap.size + 1 < w1.heap.size := (by omega); have HB1 := Lib.hid hb; clear hb)
  refine bodyPost_ret (v := .tuple #[.agg #[.int .i64 0, .int .i64 0], .bool false]) (by simp [*, results, Tryd.results46, go_sem]) rfl ⟨rfl, ?_⟩
  (repeat' (first | exact Below.refl _ _ | refine Below.setCell ?_ ?_ _ | refine Below.alloc ?_ ?_ _ | refine Below.trans ?_ (HB1.out.mono ?_))) <;> (first | omega | (simp; done) | (simp; omega))

theorem onlyGoodD_yes (t p : Int) (w : World) (hg : goodD t p = true) : Calls Tryd.prog 46 #[.agg #[.int .i64 t, .int .i64 p], .func (.func 47) #[] #[]] w fun e w' => e = .returned (.tuple #[.agg #[.int .i64 (-t), .int .i64 p], .bool true]) ∧ Below w.heap.size w w' := by
  have h1 : -4000000000000000000 ≤ t := by have := (goodD_iff.1 hg).1; omega
  have h2 : t ≤ 4000000000000000000 := by have := (goodD_iff.1 hg).2.1; omega
  go_enter Tryd.func46, Tryd.ntmps46
  go_wp2_with (first | (go_at_call 34; refine (goodI_calls _ _ _).mono ?_; rintro e w1 ⟨rfl, hb⟩; obtain ⟨hc1, hf1⟩ := bcell hb; have hz1 := hb.size; (try simp at hz1); have hy1_0 : w.heap.size < w1.heap.size := (by omega); have hy1_1 : w.heap.size + 1 < w1.heap.size := (by omega); have HB1 := Lib.hid hb; clear hb) | (go_at_call 47; refine (negated_calls _ _ _ h1 h2).mono ?_; rintro e w2 ⟨rfl, hb⟩; obtain ⟨hc2, hf2⟩ := bcell hb; have hz2 := hb.size; (try simp at hz2); have hy2_0 : w.heap.size < w2.heap.size := (by omega); have hy2_1 : w.heap.size + 1 < w2.heap.size := (by omega); have HB2 := Lib.hid hb; clear hb))
  refine bodyPost_ret (v := .tuple #[.agg #[.int .i64 (-t), .int .i64 p], .bool true]) (by simp [*, results, Tryd.results46, go_sem]) rfl ⟨rfl, ?_⟩
  (repeat' (first | exact Below.refl _ _ | refine Below.setCell ?_ ?_ _ | refine Below.alloc ?_ ?_ _ | refine Below.trans ?_ (HB2.out.mono ?_) | refine Below.trans ?_ (HB1.out.mono ?_))) <;> (first | omega | (simp; done) | (simp; omega))

theorem negI_no (t p : Int) (w : World) (hg : goodD t p = false) : Calls Tryd.prog 18 #[.agg #[.int .i64 t, .int .i64 p]] w fun e w' => e = .returned (.tuple #[.agg #[.int .i64 0, .int .i64 0], .bool false]) ∧ Below w.heap.size w w' := by
  go_enter Tryd.func18, Tryd.ntmps18
  go_wp2_with (go_at_call 46; refine (onlyGoodD_no t p _ _ hg).mono ?_; rintro e w1 ⟨rfl, hb⟩; obtain ⟨hc1, hf1⟩ := bcell hb; have hz1 := hb.size; (try simp at hz1); have hy1_0 : w.heap.size < w1.heap.size := (by omega); have hy1_1 : w.heap.size + 1 < w1.heap.size := (by omega); have HB1 := Lib.hid hb; clear hb)
  refine bodyPost_ret (v := .tuple #[.agg #[.int .i64 0, .int .i64 0], .bool false]) (by simp [*, results, Tryd.results18, go_sem]) rfl ⟨rfl, ?_⟩
  (repeat' (first | exact Below.refl _ _ | refine Below.setCell ?_ ?_ _ | refine Below.alloc ?_ ?_ _ | refine Below.trans ?_ (HB1.out.mono ?_))) <;> (first | omega | (simp; done) | (simp; omega))

theorem negI_yes (t p : Int) (w : World) (hg : goodD t p = true) : Calls Tryd.prog 18 #[.agg #[.int .i64 t, .int .i64 p]] w fun e w' => e = .returned (.tuple #[.agg #[.int .i64 (-t), .int .i64 p], .bool true]) ∧ Below w.heap.size w w' := by
  go_enter Tryd.func18, Tryd.ntmps18
  go_wp2_with (go_at_call 46; refine (onlyGoodD_yes t p _ hg).mono ?_; rintro e w1 ⟨rfl, hb⟩; obtain ⟨hc1, hf1⟩ := bcell hb; have hz1 := hb.size; (try simp at hz1); have hy1_0 : w.heap.size < w1.heap.size := (by omega); have hy1_1 : w.heap.size + 1 < w1.heap.size := (by omega); have HB1 := Lib.hid hb; clear hb)
  refine bodyPost_ret (v := .tuple #[.agg #[.int .i64 (-t), .int .i64 p], .bool true]) (by simp [*, results, Tryd.results18, go_sem]) rfl ⟨rfl, ?_⟩
  (repeat' (first | exact Below.refl _ _ | refine Below.setCell ?_ ?_ _ | refine Below.alloc ?_ ?_ _ | refine Below.trans ?_ (HB1.out.mono ?_))) <;> (first | omega | (simp; done) | (simp; omega))

end Go.Proofs.YtlblkmhiildgeaaDoor
