/- impl.lastReachesAll: each node but the last is an option of one. -/
import Derived.Test.YtabfdaofikccmaaFmSet
import Derived.Maps.Range
namespace Go.Proofs.Ytabfdaofikccmaa
open Go.RowKit
open Go.Maps (Keyed)
theorem setN_empty {w : World} {b n : Nat} {S : Nat → Bool} {D : DataW Unit} (hown : w.ownsMap Try.prog 3 unitElem b n D) (h2 : ∀ x : Nat, Maps.has D (.int .i64 (x : Int)) = S x) (h3 : ∀ kl, Maps.has D kl = true → ∃ x : Nat, kl = .int .i64 (x : Int)) :
    Maps.size D = 0 ↔ ∀ x, S x = false := by
  constructor
  · intro h x
    rw [← h2 x]
    obtain ⟨es, rfl⟩ := hown.isMap
    rw [Maps.size_eq] at h
    have : es = [] := List.length_eq_zero_iff.1 h
    subst this
    rfl
  · intro h
    obtain ⟨es, clock, hb, F, hs, rfl⟩ := hown
    rw [Maps.size_eq]
    rcases Nat.eq_zero_or_pos ((es.toList.map (WideElems.rg Try.prog 3 unitElem)).foldr DataW.insert []).length with h0 | h0
    · exact h0
    · exfalso
      obtain ⟨p, hp⟩ := lt_get h0
      have hpm := List.mem_of_getElem? hp
      obtain ⟨x, hx, rfl⟩ := List.mem_map.1 (mem_sorted.1 hpm)
      obtain ⟨y, hy⟩ := F.reads x hx
      have hh : Maps.has (DataW.map ((es.toList.map (WideElems.rg Try.prog 3 unitElem)).foldr DataW.insert [])) (WideElems.rg Try.prog 3 unitElem x).1 = true :=
        List.any_eq_true.2 ⟨_, hpm, WideAt.sameKey_self (by rw [WideElems.rg_of hy]; exact lawI.key (WideElems.rd_key hy))⟩
      obtain ⟨z, hz⟩ := h3 _ hh
      rw [hz, h2, h z] at hh
      cases hh
/-- is each node but the last an option? -/
def isOpt (f : List Nd) (x : Nat) : Bool := f.any (fun nd => decide (x ∈ nd.1) || decide (x ∈ nd.2))
def usedB (f : List Nd) : Bool := (List.range (f.length - 1)).all (fun x => isOpt f x)
theorem usedB_iff (f : List Nd) : usedB f = true ↔ Used f := by
  unfold usedB Used
  rw [List.all_eq_true]
  constructor
  · intro h i hi
    have h1 := h i (List.mem_range.2 (by omega))
    unfold isOpt at h1
    obtain ⟨nd, hnd, hx⟩ := List.any_eq_true.1 h1
    obtain ⟨k, hk⟩ := List.getElem?_of_mem hnd
    exact ⟨k, nd, hk, by simpa using hx⟩
  · intro h x hx
    obtain ⟨k, nd, hk, hx2⟩ := h x (by have := List.mem_range.1 hx; omega)
    unfold isOpt
    exact List.any_eq_true.2 ⟨nd, List.mem_of_getElem? hk, by simpa using hx2⟩
theorem isOpt_snoc (f : List Nd) (k : Nat) (nd : Nd) (h : f[k]? = some nd) (x : Nat) : isOpt (f.take (k + 1)) x = (isOpt (f.take k) x || (decide (x ∈ nd.1) || decide (x ∈ nd.2))) := by
  unfold isOpt
  rw [List.take_add_one, h, List.any_append]
  simp
theorem usedB_of (f : List Nd) : usedB f = true ↔ ∀ x, (decide (x < f.length - 1) && !isOpt f x) = false := by
  unfold usedB
  rw [List.all_eq_true]
  constructor
  · intro h x
    by_cases hx : x < f.length - 1
    · rw [h x (List.mem_range.2 hx)]; simp
    · simp [hx]
  · intro h x hx
    have h1 := h x
    rw [decide_eq_true (List.mem_range.1 hx)] at h1
    simpa using h1
theorem ints_one (w : World) (x : Nat) (t : TypeId) : IntsZ (w.alloc (.cells #[.int .i64 (x : Int)] t)) w.heap.size (w.heap.size + 1) (.slice (some ⟨w.heap.size, 0, none⟩) 1 1) (upL [x]) := by
  refine ⟨_, _, rfl, by simp [upL], fun j y hy => ⟨w.heap.size, 0, rfl, Nat.le_refl _, by omega, ?_⟩⟩
  have hj : j = 0 := by have := get_lt hy; simp [upL] at this; omega
  subst hj
  simp [upL] at hy
  subst hy
  go_simp
set_option maxHeartbeats 1000000 in
theorem last_calls (v : Value) (f : List Nd) (w : World) (lo hi : Nat) (hh : hi ≤ w.heap.size) (hv : NodesZ w lo hi v (f.map upN)) (hu : Under f) (h0 : 0 < f.length) (hl : f.length ≤ 1000000) :
    Calls Try.prog 80 #[v] w fun e w' => e = .returned (.bool (usedB f)) ∧ Below w.heap.size w w' := by
  have HV := Lib.hid hv
  have HU := Lib.hid hu
  clear hu
  obtain ⟨ao, c, rfl, _, _⟩ := hv
  rw [List.length_map]
  have hmm := @run_makeMap Try.prog
  have hw1 : IntKind.i64.wrap ((f.length : Int) - 1) = (f.length : Int) - 1 := IntWalk.i64_in _ (by omega)
  have l0 : (0 : Int) ≤ (f.length : Int) - 1 := by omega
  go_enter Try.func80, Try.ntmps80
  go_wp2
  go_loopw [11] (fun i wr => ∃ k : Nat, k ≤ f.length - 1 ∧ i = .int .i64 k ∧ Hid (SetN wr w.heap.size k (fun y => decide (y < k))) ∧ Hid (Below w.heap.size w wr)) (fun i _ => f.length - (intOf i).toNat)
  case atStart =>
    refine ⟨0, Nat.zero_le _, rfl, Lib.hid ⟨.map [], World.ownsMap_made _ _ _ _, fun x => by simp [Maps.has], fun kl hk => by simp [Maps.has] at hk⟩, Lib.hid ((Below.refl _ _).alloc (Nat.le_refl _) _)⟩
  case round =>
    obtain ⟨k, hk, rfl, hs, hb⟩ := hrel
    by_cases hlt : k < f.length - 1
    · have b0 : (0 : Int) ≤ k := by omega
      have b1 : (k : Int) < (f.length : Int) - 1 := by omega
      have C := Lib.hid (setAdd_calls w.heap.size k (fun y => decide (y < k)) _ [k] (wr.alloc (.cells #[.int .i64 (k : Int)] 3)) _ _ (hs.out.kept (World.grownBy_alloc _ _ none) (by simp)) (ints_one wr k 3) (fun x hx => by simp at hx; omega) (by simp; omega))
      have hbl : Hid (Below w.heap.size w (wr.alloc (.cells #[.int .i64 (k : Int)] 3))) := Lib.hid (hb.out.alloc hb.out.size _)
      clear hs
      go_wp2_with fail
      refine C.out.mono ?_
      rintro e w4 ⟨rfl, hs4, hg4⟩
      have R1 : Hid (SetN w4 w.heap.size (k + 1) (fun y => decide (y < k + 1))) := Lib.hid (setN_congr hs4 (fun x => by
        by_cases e : x = k <;> by_cases e2 : x < k <;> simp [e, e2] <;> omega))
      have R2 : Hid (Below w.heap.size w w4) := Lib.hid (hbl.out.grown hg4 hbl.out.size (fun j hj => by injection hj with hj; omega))
      clear hs4 hg4
      go_wp2
      go_roundw
      case rel => exact ⟨k + 1, by omega, by go_num, R1, R2⟩
      case measure => simp [intOf]; omega
    · have hke : k = f.length - 1 := by omega
      have b1 : ¬ (k : Int) < (f.length : Int) - 1 := by omega
      have R : Hid (SetN wr w.heap.size f.length (fun y => decide (y < f.length - 1) && !isOpt (f.take 0) y)) := Lib.hid (by
        obtain ⟨D, h1, h2⟩ := hs.out
        have : SetN wr w.heap.size f.length (fun y => decide (y < k)) := ⟨D, h1.mono (by omega), h2⟩
        refine setN_congr this (fun x => ?_)
        rw [hke]
        simp [isOpt])
      clear hs hke
      obtain ⟨W1, hW1⟩ : ∃ W, W = wr := ⟨_, rfl⟩
      subst hW1
      go_wp2
      go_loopw [21] (fun i wr => ∃ j : Nat, j ≤ f.length ∧ i = .int .i64 j ∧ Hid (SetN wr w.heap.size f.length (fun y => decide (y < f.length - 1) && !isOpt (f.take j) y)) ∧ Hid (Below w.heap.size w wr)) (fun i _ => f.length - (intOf i).toNat)
      case atStart => exact ⟨0, Nat.zero_le _, rfl, R, hb⟩
      case round =>
        obtain ⟨j, hj, rfl, hs, hbr⟩ := hrel
        by_cases hjl : j < f.length
        · obtain ⟨nd, hx⟩ := lt_get hjl
          obtain ⟨ao1, c1, e1, _, hn⟩ := HV.out.below hbr.out hh
          obtain ⟨b, off, v1, v2, rfl, hlo, hhi, p1, p2, i1, i2⟩ := hn j (upN nd) (by rw [List.getElem?_map, hx]; rfl)
          injection e1 with e1 q1 q2
          obtain rfl := e1
          clear q1 q2 hn
          obtain ⟨a1, n1, d1, hf1⟩ : ∃ a n c, v1 = .slice a n c := by obtain ⟨a, c, h, _⟩ := i1; exact ⟨a, _, c, h⟩
          obtain ⟨a2, n2, d2, hf2⟩ : ∃ a n c, v2 = .slice a n c := by obtain ⟨a, c, h, _⟩ := i2; exact ⟨a, _, c, h⟩
          subst hf1 hf2
          have hbz := hbr.out.size
          have hba : Hid (Below wr.heap.size wr (wr.alloc (.cells #[.slice a1 n1 d1, .slice a2 n2 d2] 57))) := Lib.hid ((Below.refl _ _).alloc (Nat.le_refl _) _)
          have HN : Hid (∀ x, x ∈ nd.1 ∨ x ∈ nd.2 → x ≤ 1000000000) := Lib.hid (fun x hx2 => by have := HU.out j nd hx x hx2; omega)
          have C := Lib.hid (setDrop_calls w.heap.size f.length _ _ nd.1 (wr.alloc (.cells #[.slice a1 n1 d1, .slice a2 n2 d2] 57)) lo hi (hs.out.kept (World.grownBy_alloc _ _ none) (by simp)) (i1.below hba.out (by omega)) (fun x hx => HN.out x (Or.inl hx)))
          have hk1 : (wr.alloc (.cells #[.slice a1 n1 d1, .slice a2 n2 d2] 57)).cell? ⟨wr.heap.size, 1, none⟩ = some (.slice a2 n2 d2) := by go_simp
          have HI2 := Lib.hid (i2.below hba.out (by omega))
          have HB2 : Hid (Below w.heap.size w (wr.alloc (.cells #[.slice a1 n1 d1, .slice a2 n2 d2] 57))) := Lib.hid (hbr.out.alloc hbz _)
          have HSX := Lib.hid hs.out.lt
          have HX := Lib.hid hx
          clear i1 i2 hs hx
          have b0 : (0 : Int) ≤ j := by omega
          have b1 : (j : Int) < f.length := by omega
          go_wp2_with fail
          refine C.out.mono ?_
          rintro e w4 ⟨rfl, hs4, hg4⟩
          have k4 := grown_cell hg4 (by have := HSX.out; omega) hk1
          have z4 := hg4.size
          have C2 := Lib.hid (setDrop_calls w.heap.size f.length _ _ nd.2 w4 lo hi hs4 (HI2.out.keep (fun b' o h1 h2 => World.cell?_of_block (a := ⟨b', o, none⟩) (hg4.block b' (by simp; omega) (by simp; omega)))) (fun x hx => HN.out x (Or.inr hx)))
          have HB4 : Hid (Below w.heap.size w w4) := Lib.hid (HB2.out.grown hg4 HB2.out.size (fun q hq => by injection hq with hq; omega))
          clear hs4 hg4 hk1 HI2 C
          go_wp2_with fail
          refine C2.out.mono ?_
          rintro e w5 ⟨rfl, hs5, hg5⟩
          have R1 : Hid (SetN w5 w.heap.size f.length (fun y => decide (y < f.length - 1) && !isOpt (f.take (j + 1)) y)) := Lib.hid (setN_congr hs5 (fun x => by
            rw [isOpt_snoc f j nd HX.out x]
            by_cases e1 : x ∈ nd.1 <;> by_cases e2 : x ∈ nd.2 <;> simp [e1, e2]))
          have R2 : Hid (Below w.heap.size w w5) := Lib.hid (HB4.out.grown hg5 HB4.out.size (fun q hq => by injection hq with hq; omega))
          clear hs5 hg5
          go_wp2
          go_roundw
          case rel => exact ⟨j + 1, by omega, by go_num, R1, R2⟩
          case measure => simp [intOf]; omega
        · obtain ⟨D, hown, h2, h3⟩ := hs.out
          have HE := setN_empty hown h2 h3
          have HR : Hid (usedB f = decide (Maps.size D = 0)) := Lib.hid (by
            rw [Bool.eq_iff_iff, decide_eq_true_iff, HE, usedB_of]
            rw [show f.take j = f from List.take_of_length_le (by omega)])
          clear h2 h3 HE hs
          go_wp2_with (at_len; refine wpList_len_own _ rfl _ 107 rfl 3 124 Try.underlying107 unitElem w.heap.size f.length D rfl hown ?_)
          go_ret
          exact ⟨ret_bool (by rw [HR.out]; rw [Bool.eq_iff_iff]; simp), hbr.out⟩

end Go.Proofs.Ytabfdaofikccmaa
