/- laws.vCut(code, 1) gives a slice of bytes again. -/
import Derived.Test.YtlblkmhiildgeaaDoorDyPick
import Derived.Laws.OwnMore
import Derived.Laws.AppendOwnNone
namespace Go.Proofs.YtlblkmhiildgeaaDoor
open Go.RowKit
set_option linter.unusedVariables false

theorem infoU8 : (Tryd.prog.info? 5).map (fun i => (i.zero, i.size, i.bytes)) = some (some (.int .u8 0), 1, 1) := by kernel_rfl

def Byt (u : Value) : Prop := ∃ x : Nat, x < 256 ∧ u = .int .u8 x

theorem code_list {w : World} {b off n : Nat} (h : ∀ j, j < n → ∃ x : Nat, x < 256 ∧ w.cell? ⟨b, off + j, none⟩ = some (.int .u8 x)) :
    ∃ ns : List Value, ns.length = n - 1 ∧ (∀ j u, ns[j]? = some u → w.cell? ⟨b, off + 1 + j, none⟩ = some u) ∧ ∀ u ∈ ns, Byt u := by
  refine ⟨(List.range (n - 1)).map fun j => (w.cell? ⟨b, off + 1 + j, none⟩).getD (.bool false), by simp, ?_, ?_⟩
  · intro j u hj
    rw [List.getElem?_map] at hj
    rcases Nat.lt_or_ge j (n - 1) with hlt | hge
    · rw [List.getElem?_eq_getElem (by simpa using hlt)] at hj
      simp at hj
      obtain ⟨x, _, hx⟩ := h (1 + j) (by omega)
      rw [← Nat.add_assoc] at hx
      rw [← hj, hx]
      rfl
    · rw [List.getElem?_eq_none (by simpa using hge)] at hj
      cases hj
  · intro u hu
    obtain ⟨j, hj, rfl⟩ := List.mem_map.1 hu
    have hlt : j < n - 1 := by simpa using hj
    obtain ⟨x, hx1, hx⟩ := h (1 + j) (by omega)
    rw [← Nat.add_assoc] at hx
    exact ⟨x, hx1, by rw [hx]; rfl⟩

theorem byt_one {u : Value} (h : Byt u) : u.oneCell' = true := by
  obtain ⟨x, _, rfl⟩ := h
  rfl

/-- what owns bytes is a code -/
theorem code_of_own {w : World} {base m : Nat} {v : Value} {xs : List Value} (hm : 0 < m) (h : w.ownsRow base 5 1 v m xs) (hx : ∀ u ∈ xs, Byt u) : ∃ g c', v = .slice (some ⟨g, 0, none⟩) m c' ∧ CodeIn w v m := by
  have hlen : xs.length = m := by simpa using h.1
  obtain ⟨g, c', rfl⟩ : ∃ g c', v = .slice (some ⟨g, 0, none⟩) m c' := by
    rcases h.2 with ⟨_, h0⟩ | ⟨g, cap, _, hv, _⟩
    · omega
    · exact ⟨g, cap, hv⟩
  refine ⟨g, c', rfl, Or.inr ⟨g, 0, c', rfl, hm, fun j hj => ?_⟩⟩
  have e := World.ownsRow.cellAt h j (by omega)
  rw [List.getElem?_eq_getElem (by omega)] at e
  obtain ⟨x, h1, h2⟩ := hx _ (List.getElem_mem (by omega : j < xs.length))
  exact ⟨x, h1, by rw [Nat.zero_add, e, h2]⟩

set_option maxRecDepth 100000 in
set_option maxHeartbeats 1000000 in
theorem vCut_more (b off n c : Nat) (w : World) (hc : ∀ j, j < n → ∃ x : Nat, x < 256 ∧ w.cell? ⟨b, off + j, none⟩ = some (.int .u8 x)) (hn0 : 2 ≤ n) (hn : n ≤ 65536) (hnc : n ≤ c) (hm : c ≤ 9223372036854775807) :
    Calls Tryd.prog 23 #[.slice (some ⟨b, off, none⟩) n c, .int .i64 1] w fun e w' => (∃ g n' c', e = .returned (.slice (some ⟨g, 0, none⟩) n' c') ∧ n' ≤ 65537 ∧ CodeIn w' (.slice (some ⟨g, 0, none⟩) n' c') n') ∧ Below w.heap.size w w' := by
  obtain ⟨i0, hi, hz0, hz1, hz2⟩ := info_parts infoU8
  have b0 : ¬ (n : Int) < 1 := by omega
  have b1 : (1 : Int) ≤ n := by omega
  have b2 : (n : Int) ≤ c := by omega
  have hb : b < w.heap.size := by
    obtain ⟨x, _, hx⟩ := hc 0 (by omega)
    rcases Nat.lt_or_ge b w.heap.size with h1 | h1
    · exact h1
    · have h2 : w.heap[b]? = none := Array.getElem?_eq_none h1
      simp [World.cell?, h2] at hx
  obtain ⟨ns, hl, hcl, hby⟩ := code_list hc
  clear hc
  have HO0 : Hid ((w.alloc (.cells #[] 5)).ownsRow w.heap.size 5 1 (.slice (some ⟨w.heap.size, 0, none⟩) 0 0) 0 []) := Lib.hid (World.ownsRow_lit w #[] 0 (Nat.le_refl _) (by unfold maxLen; omega) rfl)
  have HB0 : Hid (Below w.heap.size w (w.alloc (.cells #[] 5))) := Lib.hid ((Below.refl _ _).alloc (Nat.le_refl _) _)
  go_enter Tryd.func23, Tryd.ntmps23
  go_wp2_with (at_builtin; refine wpList_append_own _ rfl _ _ 22 rfl w.heap.size 5 i0 (.int .u8 0) 1 1 Tryd.underlying22 hi hz0 hz1 hz2 rfl (by decide) _ _ _ rfl HO0.out ⟨b, off + 1, none⟩ (n - 1) (c - 1) ns rfl (by omega) ?c1 ?c2 ?c3 ?c4 (by simp) ?_)
  case c1 => intro j u hj; exact hcl j u hj
  case c2 => exact fun u hu => byt_one (hby u hu)
  case c3 => unfold maxLen; omega
  case c4 => omega
  intro v' w1 hown hgrow hnil
  have HB1 : Hid (Below w.heap.size w w1) := Lib.hid (HB0.out.grown hgrow HB0.out.size (fun q hq => by simp [Value.ownBlock] at hq; omega))
  have HO1 := Lib.hid hown
  have hsz : w.heap.size ≤ w1.heap.size := HB1.out.size
  clear hown hgrow hnil
  go_wp2_with (at_builtin; refine wpList_append_own _ rfl _ _ 22 rfl w.heap.size 5 i0 (.int .u8 0) 1 1 Tryd.underlying22 hi hz0 hz1 hz2 rfl (by decide) _ _ _ rfl (HO1.out.alloc _) ⟨w1.heap.size, 0, none⟩ 1 1 [.int .u8 1] rfl rfl ?d1 ?d2 ?d3 ?d4 ?d5 ?_)
  case d1 =>
    intro j u hj
    match j, hj with
    | 0, hj => simp at hj; subst hj; simp [Addr.add]
  case d2 => intro u hu; simp at hu; subst hu; rfl
  case d3 => unfold maxLen; omega
  case d4 => omega
  case d5 => simp; omega
  intro v2 w2 hown hgrow hnil
  obtain ⟨g, c', rfl, hcode⟩ := code_of_own (by omega) hown (fun u hu => by
    first
      | (rcases List.mem_append.1 (by simpa using hu) with h | h
         · exact hby u h
         · simp at h; subst h; exact ⟨1, by decide, rfl⟩)
      | (rcases List.mem_append.1 hu with h | h
         · exact hby u h
         · simp at h; subst h; exact ⟨1, by decide, rfl⟩)
      | (simp at hu; rcases hu with h | h
         · exact hby u h
         · subst h; exact ⟨1, by decide, rfl⟩))
  have HB2 : Hid (Below w.heap.size w w2) := Lib.hid ((HB1.out.alloc hsz _).grown hgrow (by simp; omega) (fun q hq => (World.ownsRow.lt HO1.out q hq).1))
  have HC := Lib.hid hcode
  clear hown hgrow hnil hcode
  go_wp2
  go_ret
  exact ⟨⟨g, _, c', rfl, by omega, HC.out⟩, HB2.out⟩

set_option maxRecDepth 100000 in
set_option maxHeartbeats 1000000 in
theorem vCut_zero (a : Addr) (c : Nat) (w : World) (hm : c ≤ 9223372036854775807) :
    Calls Tryd.prog 23 #[.slice (some a) 0 c, .int .i64 1] w fun e w' => (∃ g n' c', e = .returned (.slice (some ⟨g, 0, none⟩) n' c') ∧ n' ≤ 65537 ∧ CodeIn w' (.slice (some ⟨g, 0, none⟩) n' c') n') ∧ Below w.heap.size w w' := by
  obtain ⟨i0, hi, hz0, hz1, hz2⟩ := info_parts infoU8
  have b2 : (0 : Int) ≤ c := by omega
  have hby : ∀ u ∈ ([] : List Value), Byt u := fun u hu => by cases hu
  have HO0 : Hid ((w.alloc (.cells #[] 5)).ownsRow w.heap.size 5 1 (.slice (some ⟨w.heap.size, 0, none⟩) 0 0) 0 []) := Lib.hid (World.ownsRow_lit w #[] 0 (Nat.le_refl _) (by unfold maxLen; omega) rfl)
  have HB0 : Hid (Below w.heap.size w (w.alloc (.cells #[] 5))) := Lib.hid ((Below.refl _ _).alloc (Nat.le_refl _) _)
  go_enter Tryd.func23, Tryd.ntmps23
  go_wp2_with (at_builtin; refine wpList_append_own _ rfl _ _ 22 rfl w.heap.size 5 i0 (.int .u8 0) 1 1 Tryd.underlying22 hi hz0 hz1 hz2 rfl (by decide) _ _ _ rfl HO0.out _ 0 _ [] rfl (by rfl) ?c1 ?c2 ?c3 ?c4 (by simp) ?_)
  case c1 => intro j u hj; simp at hj
  case c2 => exact fun u hu => byt_one (hby u hu)
  case c3 => unfold maxLen; omega
  case c4 => omega
  intro v' w1 hown hgrow hnil
  have HB1 : Hid (Below w.heap.size w w1) := Lib.hid (HB0.out.grown hgrow HB0.out.size (fun q hq => by simp [Value.ownBlock] at hq; omega))
  have HO1 := Lib.hid hown
  have hsz : w.heap.size ≤ w1.heap.size := HB1.out.size
  clear hown hgrow hnil
  go_wp2_with (at_builtin; refine wpList_append_own _ rfl _ _ 22 rfl w.heap.size 5 i0 (.int .u8 0) 1 1 Tryd.underlying22 hi hz0 hz1 hz2 rfl (by decide) _ _ _ rfl (HO1.out.alloc _) ⟨w1.heap.size, 0, none⟩ 1 1 [.int .u8 0] rfl rfl ?d1 ?d2 ?d3 ?d4 ?d5 ?_)
  case d1 =>
    intro j u hj
    match j, hj with
    | 0, hj => simp at hj; subst hj; simp [Addr.add]
  case d2 => intro u hu; simp at hu; subst hu; rfl
  case d3 => unfold maxLen; omega
  case d4 => omega
  case d5 => simp; omega
  intro v2 w2 hown hgrow hnil
  obtain ⟨g, c', rfl, hcode⟩ := code_of_own (by omega) hown (fun u hu => by
    simp at hu; subst hu; exact ⟨0, by decide, rfl⟩)
  have HB2 : Hid (Below w.heap.size w w2) := Lib.hid ((HB1.out.alloc hsz _).grown hgrow (by simp; omega) (fun q hq => (World.ownsRow.lt HO1.out q hq).1))
  have HC := Lib.hid hcode
  clear hown hgrow hnil hcode
  go_wp2
  go_ret
  exact ⟨⟨g, _, c', rfl, by omega, HC.out⟩, HB2.out⟩

set_option maxRecDepth 100000 in
set_option maxHeartbeats 1000000 in
theorem vCut_one1 (b off : Nat) (w : World)  :
    Calls Tryd.prog 23 #[.slice (some ⟨b, off, none⟩) 1 1, .int .i64 1] w fun e w' => (∃ g n' c', e = .returned (.slice (some ⟨g, 0, none⟩) n' c') ∧ n' ≤ 65537 ∧ CodeIn w' (.slice (some ⟨g, 0, none⟩) n' c') n') ∧ Below w.heap.size w w' := by
  obtain ⟨i0, hi, hz0, hz1, hz2⟩ := info_parts infoU8
  have hby : ∀ u ∈ ([] : List Value), Byt u := fun u hu => by cases hu
  have HO0 : Hid ((w.alloc (.cells #[] 5)).ownsRow w.heap.size 5 1 (.slice (some ⟨w.heap.size, 0, none⟩) 0 0) 0 []) := Lib.hid (World.ownsRow_lit w #[] 0 (Nat.le_refl _) (by unfold maxLen; omega) rfl)
  have HB0 : Hid (Below w.heap.size w (w.alloc (.cells #[] 5))) := Lib.hid ((Below.refl _ _).alloc (Nat.le_refl _) _)
  go_enter Tryd.func23, Tryd.ntmps23
  go_wp2_with (at_builtin; refine wpList_append_own _ rfl _ _ 22 rfl w.heap.size 5 i0 (.int .u8 0) 1 1 Tryd.underlying22 hi hz0 hz1 hz2 rfl (by decide) _ _ _ rfl HO0.out _ 0 _ [] rfl (by rfl) ?c1 ?c2 ?c3 ?c4 (by simp) ?_)
  case c1 => intro j u hj; simp at hj
  case c2 => exact fun u hu => byt_one (hby u hu)
  case c3 => unfold maxLen; omega
  case c4 => omega
  intro v' w1 hown hgrow hnil
  have HB1 : Hid (Below w.heap.size w w1) := Lib.hid (HB0.out.grown hgrow HB0.out.size (fun q hq => by simp [Value.ownBlock] at hq; omega))
  have HO1 := Lib.hid hown
  have hsz : w.heap.size ≤ w1.heap.size := HB1.out.size
  clear hown hgrow hnil
  go_wp2_with (at_builtin; refine wpList_append_own _ rfl _ _ 22 rfl w.heap.size 5 i0 (.int .u8 0) 1 1 Tryd.underlying22 hi hz0 hz1 hz2 rfl (by decide) _ _ _ rfl (HO1.out.alloc _) ⟨w1.heap.size, 0, none⟩ 1 1 [.int .u8 1] rfl rfl ?d1 ?d2 ?d3 ?d4 ?d5 ?_)
  case d1 =>
    intro j u hj
    match j, hj with
    | 0, hj => simp at hj; subst hj; simp [Addr.add]
  case d2 => intro u hu; simp at hu; subst hu; rfl
  case d3 => unfold maxLen; omega
  case d4 => omega
  case d5 => simp; omega
  intro v2 w2 hown hgrow hnil
  obtain ⟨g, c', rfl, hcode⟩ := code_of_own (by omega) hown (fun u hu => by
    simp at hu; subst hu; exact ⟨1, by decide, rfl⟩)
  have HB2 : Hid (Below w.heap.size w w2) := Lib.hid ((HB1.out.alloc hsz _).grown hgrow (by simp; omega) (fun q hq => (World.ownsRow.lt HO1.out q hq).1))
  have HC := Lib.hid hcode
  clear hown hgrow hnil hcode
  go_wp2
  go_ret
  exact ⟨⟨g, _, c', rfl, by omega, HC.out⟩, HB2.out⟩

set_option maxRecDepth 100000 in
set_option maxHeartbeats 1000000 in
theorem vCut_one2 (b off c : Nat) (w : World) (hc2 : 2 ≤ c) (hm : c ≤ 9223372036854775807) :
    Calls Tryd.prog 23 #[.slice (some ⟨b, off, none⟩) 1 c, .int .i64 1] w fun e w' => (∃ g n' c', e = .returned (.slice (some ⟨g, 0, none⟩) n' c') ∧ n' ≤ 65537 ∧ CodeIn w' (.slice (some ⟨g, 0, none⟩) n' c') n') ∧ Below w.heap.size w w' := by
  obtain ⟨i0, hi, hz0, hz1, hz2⟩ := info_parts infoU8
  have b2 : (1 : Int) ≤ c := by omega
  have b3 : ¬ c = 1 := by omega
  have hby : ∀ u ∈ ([] : List Value), Byt u := fun u hu => by cases hu
  have HO0 : Hid ((w.alloc (.cells #[] 5)).ownsRow w.heap.size 5 1 (.slice (some ⟨w.heap.size, 0, none⟩) 0 0) 0 []) := Lib.hid (World.ownsRow_lit w #[] 0 (Nat.le_refl _) (by unfold maxLen; omega) rfl)
  have HB0 : Hid (Below w.heap.size w (w.alloc (.cells #[] 5))) := Lib.hid ((Below.refl _ _).alloc (Nat.le_refl _) _)
  go_enter Tryd.func23, Tryd.ntmps23
  go_wp2_with (at_builtin; refine wpList_append_own _ rfl _ _ 22 rfl w.heap.size 5 i0 (.int .u8 0) 1 1 Tryd.underlying22 hi hz0 hz1 hz2 rfl (by decide) _ _ _ rfl HO0.out _ 0 _ [] rfl (by rfl) ?c1 ?c2 ?c3 ?c4 (by simp) ?_)
  case c1 => intro j u hj; simp at hj
  case c2 => exact fun u hu => byt_one (hby u hu)
  case c3 => unfold maxLen; omega
  case c4 => omega
  intro v' w1 hown hgrow hnil
  have HB1 : Hid (Below w.heap.size w w1) := Lib.hid (HB0.out.grown hgrow HB0.out.size (fun q hq => by simp [Value.ownBlock] at hq; omega))
  have HO1 := Lib.hid hown
  have hsz : w.heap.size ≤ w1.heap.size := HB1.out.size
  clear hown hgrow hnil
  go_wp2_with (at_builtin; refine wpList_append_own _ rfl _ _ 22 rfl w.heap.size 5 i0 (.int .u8 0) 1 1 Tryd.underlying22 hi hz0 hz1 hz2 rfl (by decide) _ _ _ rfl (HO1.out.alloc _) ⟨w1.heap.size, 0, none⟩ 1 1 [.int .u8 1] rfl rfl ?d1 ?d2 ?d3 ?d4 ?d5 ?_)
  case d1 =>
    intro j u hj
    match j, hj with
    | 0, hj => simp at hj; subst hj; simp [Addr.add]
  case d2 => intro u hu; simp at hu; subst hu; rfl
  case d3 => unfold maxLen; omega
  case d4 => omega
  case d5 => simp; omega
  intro v2 w2 hown hgrow hnil
  obtain ⟨g, c', rfl, hcode⟩ := code_of_own (by omega) hown (fun u hu => by
    simp at hu; subst hu; exact ⟨1, by decide, rfl⟩)
  have HB2 : Hid (Below w.heap.size w w2) := Lib.hid ((HB1.out.alloc hsz _).grown hgrow (by simp; omega) (fun q hq => (World.ownsRow.lt HO1.out q hq).1))
  have HC := Lib.hid hcode
  clear hown hgrow hnil hcode
  go_wp2
  go_ret
  exact ⟨⟨g, _, c', rfl, by omega, HC.out⟩, HB2.out⟩

set_option maxRecDepth 100000 in
set_option maxHeartbeats 1000000 in
theorem vCut_none (w : World) :
    Calls Tryd.prog 23 #[.slice none 0 0, .int .i64 1] w fun e w' => (∃ g n' c', e = .returned (.slice (some ⟨g, 0, none⟩) n' c') ∧ n' ≤ 65537 ∧ CodeIn w' (.slice (some ⟨g, 0, none⟩) n' c') n') ∧ Below w.heap.size w w' := by
  obtain ⟨i0, hi, hz0, hz1, hz2⟩ := info_parts infoU8
  have HO1 : Hid ((w.alloc (.cells #[] 5)).ownsRow w.heap.size 5 1 (.slice (some ⟨w.heap.size, 0, none⟩) 0 0) 0 []) := Lib.hid (World.ownsRow_lit w #[] 0 (Nat.le_refl _) (by unfold maxLen; omega) rfl)
  have HB1 : Hid (Below w.heap.size w (w.alloc (.cells #[] 5))) := Lib.hid ((Below.refl _ _).alloc (Nat.le_refl _) _)
  go_enter Tryd.func23, Tryd.ntmps23
  go_wp2_with (at_builtin; refine wpList_append_own _ rfl _ _ 22 rfl w.heap.size 5 i0 (.int .u8 0) 1 1 Tryd.underlying22 hi hz0 hz1 hz2 rfl (by decide) _ _ _ rfl (HO1.out.alloc _) ⟨w.heap.size + 1, 0, none⟩ 1 1 [.int .u8 0] rfl rfl ?d1 ?d2 ?d3 ?d4 ?d5 ?_)
  case d1 =>
    intro j u hj
    match j, hj with
    | 0, hj => simp at hj; subst hj; simp [Addr.add]
  case d2 => intro u hu; simp at hu; subst hu; rfl
  case d3 => unfold maxLen; omega
  case d4 => omega
  case d5 => simp; omega
  intro v2 w2 hown hgrow hnil
  obtain ⟨g, c', rfl, hcode⟩ := code_of_own (by omega) hown (fun u hu => by
    simp at hu; subst hu; exact ⟨0, by decide, rfl⟩)
  have HB2 : Hid (Below w.heap.size w w2) := Lib.hid ((HB1.out.alloc (by simp) _).grown hgrow (by simp; omega) (fun q hq => (World.ownsRow.lt HO1.out q hq).1))
  have HC := Lib.hid hcode
  clear hown hgrow hnil hcode
  go_wp2
  go_ret
  exact ⟨⟨g, _, c', rfl, by omega, HC.out⟩, HB2.out⟩

end Go.Proofs.YtlblkmhiildgeaaDoor
