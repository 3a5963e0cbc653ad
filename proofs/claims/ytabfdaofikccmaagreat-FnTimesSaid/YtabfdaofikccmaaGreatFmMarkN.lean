/- The laws' marks: numbers written through a form, and read again. -/
import Derived.Test.YtabfdaofikccmaaGreatFmOwn
import Derived.Test.YtabfdaofikccmaaGreatFmBkPut
namespace Go.Proofs.YtabfdaofikccmaaGreat
set_option linter.unusedVariables false
set_option linter.unusedSimpArgs false
open Go.RowKit

theorem OwnI.len_ {base g n c : Nat} {l : List Int} {w : World} (h : OwnI w base (.slice (some ⟨g, 0, none⟩) n c) l) : n = l.length := by
  rcases h.2 with ⟨h1, h0⟩ | ⟨g', c', cs, h1, _⟩
  · cases h1
  · injection h1

theorem OwnI.at_ {base g n c x : Nat} {v : Int} {l : List Int} {w : World} (h : OwnI w base (.slice (some ⟨g, 0, none⟩) n c) l) (hx : l[x]? = some v) : w.cell? ⟨g, x, none⟩ = some (.int .i64 v) ∧ w.frozen? ⟨g, x, none⟩ = false := by
  have hl : (l.map (Value.int .i64)).length = l.length * 1 := h.1
  have hlt := get_lt hx
  obtain rfl := h.len_
  refine ⟨?_, World.ownsRow.frozenAt h x⟩
  rw [World.ownsRow.cellAt h x (by omega), List.getElem?_map, hx]
  rfl

theorem OwnI.put {base g n c x : Nat} {v : Int} {l : List Int} {w : World} (h : OwnI w base (.slice (some ⟨g, 0, none⟩) n c) l) :
    OwnI (w.setCell ⟨g, x, none⟩ (.int .i64 v)) base (.slice (some ⟨g, 0, none⟩) n c) (l.set x v) ∧ Only w (w.setCell ⟨g, x, none⟩ (.int .i64 v)) (fun b => (Value.slice (some ⟨g, 0, none⟩) n c).ownBlock = some b) := by
  obtain rfl := h.len_
  have h2 := World.ownsRow.stored h x (.int .i64 v)
  rw [← List.map_set] at h2
  refine ⟨?_, Only.of_set _ rfl⟩
  unfold OwnI
  rw [List.length_set]
  exact h2.1

theorem OwnI.some_ {base n c x : Nat} {a : Option Addr} {l : List Int} {w : World} (h : OwnI w base (.slice a n c) l) (hx : x < l.length) : ∃ g, a = some ⟨g, 0, none⟩ := by
  rcases h.2 with ⟨h1, h0⟩ | ⟨g, c', cs, h1, _⟩
  · omega
  · injection h1 with h1 _ _
    exact ⟨g, h1⟩

/-- one step of marking -/
theorem mark_step {base c j : Nat} {a : Option Addr} {l : List Int} {k : Int} {w wr : World} (hR : OwnI wr base (.slice a l.length c) (midI k l j)) (hO : Only w wr (fun b => (Value.slice a l.length c).ownBlock = some b)) (hj : j < l.length) :
    ∃ g, a = some ⟨g, 0, none⟩ ∧ (∃ v, wr.cell? ⟨g, j, none⟩ = some (.int .i64 v)) ∧ wr.frozen? ⟨g, j, none⟩ = false ∧
    Hid (OwnI (wr.setCell ⟨g, j, none⟩ (.int .i64 (k + (j : Int)))) base (.slice (some ⟨g, 0, none⟩) l.length c) (midI k l (j + 1))) ∧
    Hid (Only w (wr.setCell ⟨g, j, none⟩ (.int .i64 (k + (j : Int)))) (fun b => (Value.slice (some ⟨g, 0, none⟩) l.length c).ownBlock = some b)) := by
  have hlen := midI_len k l j (by omega)
  obtain ⟨g, rfl⟩ := hR.some_ (x := j) (by omega)
  obtain ⟨v, hv⟩ := lt_get (l := midI k l j) (i := j) (by omega)
  have h1 := hR.at_ hv
  have h2 := hR.put (x := j) (v := k + (j : Int))
  rw [midI_set k l j hj] at h2
  exact ⟨g, rfl, ⟨v, h1.1⟩, h1.2, Lib.hid h2.1, Lib.hid (hO.trans h2.2 (fun _ _ h => h))⟩

set_option maxHeartbeats 1000000 in
theorem markI_calls (v : Value) (l : List Int) (k : Int) (w : World) (base : Nat) (h : OwnI w base v l) (h0 : 0 ≤ k) (h1 : k + (l.length : Int) ≤ 1000000000) :
    Calls Tryz.prog 167 #[v, .int .i64 k] w fun e w' => e = .returned (.int .i64 (k + (l.length : Int))) ∧ OwnI w' base v (nums k l.length) ∧ Only w w' (fun b => v.ownBlock = some b) := by
  have H := Lib.hid h
  obtain ⟨a, c, rfl⟩ := h.form
  clear h
  go_enter Tryz.func167, Tryz.ntmps167
  go_wp2
  go_loopw [1, 5] (fun kk i wr => ∃ j : Nat, j ≤ l.length ∧ kk = .int .i64 (k + (j : Int)) ∧ i = .int .i64 (j : Int) ∧ Hid (OwnI wr base (.slice a l.length c) (midI k l j)) ∧ Hid (Only w wr (fun b => (Value.slice a l.length c).ownBlock = some b))) (fun _ i _ => l.length - (intOf i).toNat)
  case atStart => exact ⟨0, Nat.zero_le _, by simp, rfl, Lib.hid (by rw [midI_zero]; exact H.out), Lib.hid (Only.refl _ _)⟩
  case round =>
    obtain ⟨j, hj, rfl, rfl, hR, hO⟩ := hrel
    by_cases hjl : j < l.length
    · obtain ⟨g, rfl, ⟨u, hc⟩, hf, R1, R2⟩ := mark_step hR.out hO.out hjl
      clear H hR hO
      have b0 : (0 : Int) ≤ j := by omega
      have b1 : (j : Int) < l.length := by omega
      go_wp2
      go_round
      case rel => exact ⟨j + 1, by omega, by go_num, by go_num, R1, R2⟩
      case measure => simp [intOf]; omega
    · have hje : j = l.length := by omega
      subst hje
      have HF := Lib.hid (show OwnI _ base (.slice a l.length c) (nums k l.length) from by have := hR.out; rw [midI_all] at this; exact this)
      clear H hR
      go_wp2
      go_ret
      exact ⟨rfl, HF.out, hO.out⟩

set_option maxHeartbeats 1000000 in
theorem heldI_calls (v : Value) (k : Int) (n : Nat) (w : World) (lo hi : Nat) (h : IntsZ w lo hi v (nums k n)) (h0 : 0 ≤ k) (h1 : k + (n : Int) ≤ 1000000000) :
    Calls Tryz.prog 168 #[v, .int .i64 k] w fun e w' => e = .returned (.int .i64 (k + (n : Int))) ∧ w' = w := by
  have H := Lib.hid h
  obtain ⟨ao, c, rfl, hcap, _⟩ := h
  rw [nums_len] at H hcap ⊢
  go_enter Tryz.func168, Tryz.ntmps168
  go_wp2
  go_loopw [1, 5] (fun kk i wr => ∃ j : Nat, j ≤ n ∧ kk = .int .i64 (k + (j : Int)) ∧ i = .int .i64 (j : Int) ∧ wr = w) (fun _ i _ => n - (intOf i).toNat)
  case atStart => exact ⟨0, Nat.zero_le _, by simp, rfl, by first | trivial | rfl⟩
  case round =>
    obtain ⟨j, hj, rfl, rfl, rfl⟩ := hrel
    by_cases hjl : j < n
    · obtain ⟨ao', c', e', _, hn⟩ := H.out
      obtain ⟨b, off, rfl, _, _, hc⟩ := hn j (k + (j : Int)) (nums_at k n j hjl)
      injection e' with e1 e2 e3
      obtain rfl := e1
      clear hn e2 e3 H
      have b0 : (0 : Int) ≤ j := by omega
      have b1 : (j : Int) < n := by omega
      go_wp2
      go_round
      case rel => exact ⟨j + 1, by omega, by go_num, by go_num, by first | trivial | rfl⟩
      case measure => simp [intOf]; omega
    · have hje : j = n := by omega
      subst hje
      clear H
      go_wp2
      go_ret
      exact ⟨rfl, rfl⟩

/-- the blocks of a form's lists -/
def BlkF (vs : List (Value × Value)) (b : Nat) : Prop := ∃ (i : Nat) (p : Value × Value), vs[i]? = some p ∧ (p.1.ownBlock = some b ∨ p.2.ownBlock = some b)

theorem OwnF.node_at {w : World} {base i : Nat} {v : Value} {vs : List (Value × Value)} {f : List Nz} {nd : Nz} (h : OwnF w base v vs f) (hi : f[i]? = some nd) :
    ∃ (g c : Nat) (p : Value × Value), v = .slice (some ⟨g, 0, none⟩) f.length c ∧ vs[i]? = some p ∧ w.cell? ⟨g, i * 2, none⟩ = some p.1 ∧ w.cell? ⟨g, i * 2 + 1, none⟩ = some p.2 ∧ OwnI w base p.1 nd.1 ∧ OwnI w base p.2 nd.2 := by
  have hil := get_lt hi
  rcases h.nodes.2 with ⟨h1, h0⟩ | ⟨g, c, cs, h1, _⟩
  · omega
  · subst h1
    have hn := h.nodes
    obtain ⟨p, hp⟩ := lt_get (l := vs) (i := i) (by rw [h.len]; exact hil)
    have hr := rowN2_at vs i p hp
    obtain ⟨i1, i2⟩ := h.list i nd p hi hp
    refine ⟨g, _, p, rfl, hp, ?_, ?_, i1, i2⟩
    · rw [World.ownsRow.cellAt hn (i * 2) (by omega)]; exact hr.1
    · rw [World.ownsRow.cellAt hn (i * 2 + 1) (by omega)]; exact hr.2

theorem OwnF.blk {w : World} {base : Nat} {v : Value} {vs : List (Value × Value)} {f : List Nz} (h : OwnF w base v vs f) {b : Nat} (hb : BlkF vs b) : base ≤ b ∧ b < w.heap.size := by
  obtain ⟨i, p, hp, hb⟩ := hb
  obtain ⟨nd, hnd⟩ := lt_get (l := f) (i := i) (by rw [← h.len]; exact get_lt hp)
  obtain ⟨i1, i2⟩ := h.list i nd p hnd hp
  rcases hb with hb | hb
  · exact i1.lt b hb
  · exact i2.lt b hb

theorem OwnF.shape {w : World} {base : Nat} {v : Value} {vs : List (Value × Value)} {f : List Nz} (h : OwnF w base v vs f) : ∃ a c, v = .slice a f.length c := by
  rcases h.nodes.2 with ⟨h1, h0⟩ | ⟨g, c, cs, h1, _⟩
  · exact ⟨none, 0, by rw [h1, h0]⟩
  · exact ⟨_, _, h1⟩

theorem midF_len (f : List Nz) (k : Int) (i : Nat) (h : i ≤ f.length) : (midF f k i).length = f.length := by
  unfold midF
  rw [List.length_append, markF_len, List.length_take, List.length_drop]
  omega

theorem sum_take_le (l : List Nat) (i : Nat) : (l.take i).sum ≤ l.sum := by
  conv => rhs; rw [← List.take_append_drop i l]
  rw [List.sum_append]
  omega

theorem markF_le (f : List Nz) (k : Int) (i : Nat) : k ≤ (markF (f.take i) k).2 ∧ (markF (f.take i) k).2 ≤ (markF f k).2 := by
  have h := sum_take_le (f.map szN) i
  rw [markF_end, markF_end, List.map_take]
  omega

/-- what marking one node takes -/
theorem mark_node {base c j : Nat} {a : Option Addr} {vs : List (Value × Value)} {f : List Nz} {k : Int} {w wr : World} {nd : Nz} (hR : OwnF wr base (.slice a f.length c) vs (midF f k j)) (hO : Only w wr (BlkF vs)) (hj : f[j]? = some nd) :
    ∃ (g : Nat) (p : Value × Value), a = some ⟨g, 0, none⟩ ∧ wr.cell? ⟨g, j * 2, none⟩ = some p.1 ∧ OwnI wr base p.1 nd.1 ∧
      Hid (∀ w1, OwnI w1 base p.1 (nums (markF (f.take j) k).2 nd.1.length) → Only wr w1 (fun b => p.1.ownBlock = some b) →
        w1.cell? ⟨g, j * 2 + 1, none⟩ = some p.2 ∧ OwnI w1 base p.2 nd.2 ∧
        Hid (∀ w2, OwnI w2 base p.2 (nums ((markF (f.take j) k).2 + (nd.1.length : Int)) nd.2.length) → Only w1 w2 (fun b => p.2.ownBlock = some b) →
          Hid (OwnF w2 base (.slice (some ⟨g, 0, none⟩) f.length c) vs (midF f k (j + 1))) ∧ Hid (Only w w2 (BlkF vs)))) := by
  have hjl := get_lt hj
  have hm := midF_at f k j nd hj
  obtain ⟨g, c', p, e, hp, hc1, hc2, i1, i2⟩ := hR.node_at hm
  injection e with e1 e2 e3
  subst e1
  refine ⟨g, p, rfl, hc1, i1, Lib.hid (fun w1 h1 o1 => ?_)⟩
  have hF1 := hR.setL hm hp o1 h1
  have hm1 : ((midF f k j).set j (nums (markF (f.take j) k).2 nd.1.length, nd.2))[j]? = some (nums (markF (f.take j) k).2 nd.1.length, nd.2) := List.getElem?_set_self (by rw [midF_len f k j (by omega)]; exact hjl)
  obtain ⟨g', c'', p', e, hp', hd1, hd2, j1, j2⟩ := hF1.node_at hm1
  injection e with e1 e2 e3
  injection e1 with e1
  injection e1 with e1 _ _
  subst e1
  rw [hp] at hp'
  injection hp' with hp'
  subst hp'
  refine ⟨hd2, j2, Lib.hid (fun w2 h2 o2 => ?_)⟩
  have hF2 := hF1.setR hm1 hp o2 h2
  rw [List.set_set, midF_set f k j nd hj] at hF2
  refine ⟨Lib.hid hF2, Lib.hid ((hO.trans o1 (fun b _ hb => ⟨j, p, hp, Or.inl hb⟩)).trans o2 (fun b _ hb => ⟨j, p, hp, Or.inr hb⟩))⟩

set_option maxHeartbeats 1000000 in
theorem markN_calls (v : Value) (vs : List (Value × Value)) (f : List Nz) (k : Int) (w : World) (base : Nat) (h : OwnF w base v vs f) (h0 : 0 ≤ k) (h1 : (markF f k).2 ≤ 1000000000) :
    Calls Tryz.prog 111 #[v, .int .i64 k] w fun e w' => e = .returned (.int .i64 (markF f k).2) ∧ OwnF w' base v vs (markF f k).1 ∧ Only w w' (BlkF vs) := by
  have H := Lib.hid h
  have hcap : f.length ≤ 9223372036854775807 := by obtain ⟨_, _, _, hc, _⟩ := h.nodesZ; exact Nat.le_trans hc.1 hc.2
  obtain ⟨a, c, rfl⟩ := h.shape
  clear h
  go_enter Tryz.func111, Tryz.ntmps111
  go_wp2
  go_loopw [1, 5] (fun kk i wr => ∃ j : Nat, j ≤ f.length ∧ kk = .int .i64 (markF (f.take j) k).2 ∧ i = .int .i64 (j : Int) ∧ Hid (OwnF wr base (.slice a f.length c) vs (midF f k j)) ∧ Hid (Only w wr (BlkF vs))) (fun _ i _ => f.length - (intOf i).toNat)
  case atStart => exact ⟨0, Nat.zero_le _, by simp [markF], rfl, Lib.hid (by rw [midF_zero]; exact H.out), Lib.hid (Only.refl _ _)⟩
  case round =>
    obtain ⟨j, hj, rfl, rfl, hR, hO⟩ := hrel
    by_cases hjl : j < f.length
    · obtain ⟨nd, hnd⟩ := lt_get hjl
      have e1 := markF_take f k j nd hnd
      have b2 := (markF_le f k j).1
      have b3 := (markF_le f k (j + 1)).2
      obtain ⟨g, p, rfl, hc1, i1, HN⟩ := mark_node hR.out hO.out hnd
      generalize (markF (f.take j) k).2 = K at *
      have C1 := Lib.hid (markI_calls p.1 nd.1 K _ base i1 (by omega) (by omega))
      have HE := Lib.hid e1
      have C2 := Lib.hid (fun w1 (j2 : OwnI w1 base p.2 nd.2) => markI_calls p.2 nd.2 (K + (nd.1.length : Int)) w1 base j2 (by omega) (by omega))
      clear H hR hO i1 e1 b2 b3
      have b0 : (0 : Int) ≤ j := by omega
      have b1 : (j : Int) < f.length := by omega
      go_wp2_with fail
      refine C1.out.mono ?_
      rintro e w1 ⟨rfl, h1, o1⟩
      obtain ⟨hc2, j2, HN2⟩ := HN.out w1 h1 o1
      have C3 := Lib.hid (C2.out w1 j2)
      clear HN C1 C2 h1 o1 j2
      go_wp2_with fail
      refine C3.out.mono ?_
      rintro e w2 ⟨rfl, h2, o2⟩
      obtain ⟨R1, R2⟩ := HN2.out w2 h2 o2
      clear HN2 C3 h2 o2
      go_wp2_with fail
      go_round
      case rel => exact ⟨j + 1, by omega, by rw [HE.out], by go_num, R1, R2⟩
      case measure => simp [intOf]; omega
    · have hje : j = f.length := by omega
      subst hje
      have HF := Lib.hid (show OwnF _ base (.slice a f.length c) vs (markF f k).1 from by have := hR.out; rw [midF_all] at this; exact this)
      rw [List.take_length]
      clear H hR
      go_wp2
      go_ret
      exact ⟨rfl, HF.out, hO.out⟩

theorem markF_get : ∀ (f : List Nz) (k : Int) (j : Nat) (nd : Nz), f[j]? = some nd → (markF f k).1[j]? = some (nums (markF (f.take j) k).2 nd.1.length, nums ((markF (f.take j) k).2 + (nd.1.length : Int)) nd.2.length)
  | [], k, j, nd, h => by simp at h
  | n0 :: f, k, 0, nd, h => by
    simp at h
    subst h
    simp [markF]
  | n0 :: f, k, j + 1, nd, h => by
    rw [List.getElem?_cons_succ] at h
    have ih := markF_get f (k + (n0.1.length : Int) + (n0.2.length : Int)) j nd h
    simp only [markF, List.getElem?_cons_succ, List.take_succ_cons]
    exact ih

end Go.Proofs.YtabfdaofikccmaaGreat
