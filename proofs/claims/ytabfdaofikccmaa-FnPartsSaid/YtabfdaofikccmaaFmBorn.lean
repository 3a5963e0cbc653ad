/- Birthdays, by the program. -/
import Derived.Test.YtabfdaofikccmaaFmTo
import Derived.IntWalk
import Derived.StillTailTactics
namespace Go.Proofs.Ytabfdaofikccmaa
open Go.RowKit
theorem bOf_le (f : List Nd) (hu : Under f) : ∀ k, k < f.length → bOf f k ≤ k := by
  have hb := births_bOf f hu
  intro k
  induction k using Nat.strongRecOn with
  | ind k ih =>
    intro hk
    obtain ⟨nd, hnd⟩ := lt_get hk
    rw [hb k nd hnd]
    refine lastOf_le _ _ _ fun x hx => ?_
    have h1 := hu k nd hnd x hx
    have h2 := ih x h1 (by omega)
    omega
/-- birthdays of the first ones, and zeros -/
def valsB (f : List Nd) (k : Nat) : List Nat := bornsOf (f.take k) ++ List.replicate (f.length - k) 0
/-- ... one birthday under way -/
def midB (f : List Nd) (k c : Nat) : List Nat := bornsOf (f.take k) ++ c :: List.replicate (f.length - k - 1) 0
def iv (n : Nat) : Value := .int .i64 n
theorem bornsTake_len (f : List Nd) (k : Nat) (hk : k ≤ f.length) : (bornsOf (f.take k)).length = k := by rw [bornsOf_len]; simp; omega
theorem midB_zero (f : List Nd) (k : Nat) (hk : k < f.length) : midB f k 0 = valsB f k := by
  unfold midB valsB
  rw [show f.length - k = (f.length - k - 1) + 1 from by omega, List.replicate_succ]
  simp
theorem midB_done (f : List Nd) (k : Nat) (nd : Nd) (h : f[k]? = some nd) : midB f k (lastOf (fun x => (bornsOf (f.take k)).getD x 0) nd) = valsB f (k + 1) := by
  have hk := get_lt h
  unfold midB valsB
  rw [List.take_succ_eq_append_getElem hk]
  rw [List.getElem?_eq_getElem hk] at h
  injection h with h
  rw [h, bornsOf_snoc, List.append_assoc]
  rfl
theorem midB_set (f : List Nd) (k c c' : Nat) (hk : k ≤ f.length) : ((midB f k c).map iv).set k (iv c') = (midB f k c').map iv := by
  unfold midB
  rw [List.map_append, List.map_append, List.set_append_right _ _ (by rw [List.length_map, bornsTake_len f k hk]; omega), List.length_map, bornsTake_len f k hk, Nat.sub_self]
  rfl
theorem midB_at (f : List Nd) (k c : Nat) (hk : k ≤ f.length) : (midB f k c)[k]? = some c := by
  unfold midB
  rw [List.getElem?_append_right (by rw [bornsTake_len f k hk]; omega), bornsTake_len f k hk, Nat.sub_self]
  rfl
theorem midB_lt (f : List Nd) (k c x : Nat) (hk : k ≤ f.length) (hx : x < k) : (midB f k c)[x]? = some ((bornsOf (f.take k)).getD x 0) := by
  unfold midB
  have hl := bornsTake_len f k hk
  rw [List.getElem?_append_left (by omega), List.getD_eq_getElem?_getD, List.getElem?_eq_getElem (by omega)]
  rfl
theorem valsB_all (f : List Nd) : valsB f f.length = bornsOf f := by simp [valsB]
/-- the latest of some options so far -/
def accB (B : List Nat) (L : List Nat) : Nat := L.foldl (fun m x => max m (B.getD x 0 + 1)) 0
theorem accB_snoc (B L : List Nat) (x : Nat) : accB B (L ++ [x]) = max (accB B L) (B.getD x 0 + 1) := by simp [accB, List.foldl_append]
theorem accB_le (B L : List Nat) (k : Nat) (h : ∀ x ∈ L, B.getD x 0 < k) : accB B L ≤ k := by
  rcases foldl_max_is (fun x => B.getD x 0) L 0 with h1 | ⟨x, hx, h1⟩
  · unfold accB; omega
  · have := h x hx
    unfold accB; omega
theorem lastOf_acc (B : List Nat) (nd : Nd) : lastOf (fun x => B.getD x 0) nd = accB B (nd.1 ++ nd.2) := rfl
theorem bornsTake_get (f : List Nd) (hu : Under f) (k x : Nat) (hk : k ≤ f.length) (hx : x < k) : (bornsOf (f.take k)).getD x 0 < k := by
  have hp : bornsOf (f.take k) <+: bornsOf f := by
    have := bornsOf_pre (f.take k) (f.drop k)
    rwa [List.take_append_drop] at this
  have h1 := getD_pre hp x (by rw [bornsTake_len f k hk]; exact hx)
  have h2 := bOf_le f hu x (by omega)
  unfold bOf at h2
  omega
/-- block g is a row of the call's own that holds these numbers -/
def RowN (base g n : Nat) (vals : List Nat) (wr : World) : Prop := wr.ownsRow base 3 1 (.slice (some ⟨g, 0, none⟩) n n) n (vals.map iv)
theorem RowN.at_ {base g n x v : Nat} {vals : List Nat} {wr : World} (h : RowN base g n vals wr) (hx : vals[x]? = some v) : wr.cell? ⟨g, x, none⟩ = some (.int .i64 v) := by
  have hl : (vals.map iv).length = n * 1 := h.1
  have hlt := get_lt hx
  rw [List.length_map] at hl
  have h2 := World.ownsRow.cellAt h x (by omega)
  rw [h2, List.getElem?_map, hx]
  rfl
theorem RowN.below {base g n : Nat} {vals : List Nat} {wr w' : World} (h : RowN base g n vals wr) (hb : Below wr.heap.size wr w') : RowN base g n vals w' :=
  World.ownsRow.kept h (grownBy_below' hb none) (Or.inr (by simp [Value.ownBlock]))
theorem RowN.put {base g n k c c' : Nat} {f : List Nd} {w wr : World} (h : RowN base g n (midB f k c) wr) (hk : k ≤ f.length) (hge : w.heap.size ≤ g) (hb : Below w.heap.size w wr) :
    RowN base g n (midB f k c') (wr.setCell ⟨g, k, none⟩ (.int .i64 c')) ∧ Below w.heap.size w (wr.setCell ⟨g, k, none⟩ (.int .i64 c')) := by
  have h2 := World.ownsRow.stored h k (iv c')
  rw [midB_set f k c c' hk] at h2
  exact ⟨h2.1, hb.grown h2.2 hb.size (fun q hq => by simp at hq; omega)⟩
theorem RowN.ints {base g n : Nat} {vals : List Nat} {wr : World} (h : RowN base g n vals wr) (hn : n ≤ 1000000) (hl : vals.length = n) : IntsZ wr base wr.heap.size (.slice (some ⟨g, 0, none⟩) n n) (upL vals) := by
  have hlt := World.ownsRow.lt h g rfl
  refine ⟨_, _, by rw [show (upL vals).length = n by unfold upL; rw [List.length_map, hl]], by unfold upL; rw [List.length_map]; omega, fun j x hx => ⟨g, 0, rfl, hlt.1, hlt.2, ?_⟩⟩
  unfold upL at hx
  rw [List.getElem?_map] at hx
  cases hv : vals[j]? with
  | none => rw [hv] at hx; cases hx
  | some y =>
    rw [hv] at hx
    injection hx with hx
    subst hx
    rw [Nat.zero_add]
    exact h.at_ hv
theorem drewN_row {base g n : Nat} {vals : List Nat} {wr : World} (h : RowN base g n vals wr) : RowN base g n vals wr.drew := h
set_option maxRecDepth 100000 in
set_option maxHeartbeats 4000000 in
theorem birth_calls (v : Value) (f : List Nd) (w : World) (lo hi : Nat) (hh : hi ≤ w.heap.size) (hv : NodesZ w lo hi v (f.map upN)) (hu : Under f) (hl : f.length ≤ 1000000) :
    Calls Try.prog 53 #[v] w fun e w' => ∃ g, e = .returned (.slice (some ⟨g, 0, none⟩) f.length f.length) ∧ RowN w.heap.size g f.length (bornsOf f) w' ∧ Below w.heap.size w w' := by
  obtain ⟨i0, hi0, hz0, hz1, hz2⟩ := info_parts infoIntA
  have HV := Lib.hid hv
  have HU := Lib.hid hu
  clear hu
  obtain ⟨ao, c, rfl, _, _⟩ := hv
  rw [List.length_map]
  go_enter Try.func53, Try.ntmps53
  go_wp2_with (at_make; refine wpList_make_full _ rfl _ _ 34 rfl w.heap.size 3 i0 (.int .i64 0) 1 Try.underlying34 hi0 hz0 hz1 _ _ _ _ f.length rfl rfl rfl rfl (by rw [hz2]; omega) (by unfold maxLen; omega) (Nat.le_refl _) ?_; intro w1 hown hg)
  have HO : Hid (RowN w.heap.size w.heap.size f.length (valsB f 0) w1) := by
    have e : (madeCells (Value.int .i64 0).cells (f.length * 1)).toList = (valsB f 0).map iv := by
      show (madeCells #[Value.int .i64 0] (f.length * 1)).toList = _
      rw [Nat.mul_one, made_one]
      simp [valsB, bornsOf, iv]
    unfold RowN
    rw [← e]
    exact Lib.hid hown
  have HG := Lib.hid hg
  clear hown hg
  have HB : Hid (Below w.heap.size w w1) := Lib.hid ((Below.refl _ _).grown HG.out (Nat.le_refl _) (fun k hk => by cases hk))
  clear HG
  go_wp2
  go_loopw [15] (fun i wr => ∃ k : Nat, k ≤ f.length ∧ i = .int .i64 k ∧ Hid (RowN w.heap.size w.heap.size f.length (valsB f k) wr) ∧ Hid (Below w.heap.size w wr)) (fun i _ => f.length - (intOf i).toNat)
  case atStart => exact ⟨0, Nat.zero_le _, rfl, HO, HB⟩
  case round =>
    obtain ⟨k, hk, rfl, ho, hb⟩ := hrel
    by_cases hlt : k < f.length
    · obtain ⟨nd, hx⟩ : ∃ x, f[k]? = some x := ⟨f[k], List.getElem?_eq_getElem hlt⟩
      obtain ⟨ao1, c1, e1, _, hn⟩ := HV.out.below hb.out hh
      obtain ⟨b, off, v1, v2, rfl, hlo, hhi, p1, p2, i1, i2⟩ := hn k (upN nd) (by rw [List.getElem?_map, hx]; rfl)
      injection e1 with e1 q1 q2
      obtain rfl := e1
      clear q1 q2 hn
      have HI1 := Lib.hid i1
      have HI2 := Lib.hid i2
      obtain ⟨a1, n1, d1, hf1⟩ : ∃ a n c, v1 = .slice a n c := by obtain ⟨a, c, h, _⟩ := i1; exact ⟨a, _, c, h⟩
      obtain ⟨a2, n2, d2, hf2⟩ : ∃ a n c, v2 = .slice a n c := by obtain ⟨a, c, h, _⟩ := i2; exact ⟨a, _, c, h⟩
      subst hf1 hf2
      clear i1 i2
      have HX := Lib.hid hx
      clear hx
      have b0 : (0 : Int) ≤ k := by omega
      have b1 : (k : Int) < f.length := by omega
      obtain ⟨W1, hW1⟩ : ∃ W, W = wr := ⟨_, rfl⟩
      subst hW1
      have HN : Hid (∀ x, x ∈ nd.1 ∨ x ∈ nd.2 → x < k) := Lib.hid (fun x hx => HU.out k nd HX.out x hx)
      have HM : Hid (RowN w.heap.size w.heap.size f.length (midB f k (accB (bornsOf (f.take k)) [])) W1) := Lib.hid (by
        have h2 := ho.out
        rw [← midB_zero f k hlt] at h2
        exact h2)
      clear ho
      have hbz := hb.out.size
      go_wp2
      go_loopw [26] (fun i wr => ∃ (s : Nat) (P : List Nat), s ≤ 2 ∧ i = .int .i64 s ∧ Hid (P = if s = 0 then [] else if s = 1 then nd.1 else nd.1 ++ nd.2) ∧ Hid (RowN w.heap.size w.heap.size f.length (midB f k (accB (bornsOf (f.take k)) P)) wr) ∧ Hid (Below w.heap.size w wr) ∧
        W1.heap.size + 1 < wr.heap.size ∧ Hid (IntsZ wr lo hi (.slice a1 n1 d1) (upL nd.1)) ∧ Hid (IntsZ wr lo hi (.slice a2 n2 d2) (upL nd.2)) ∧ wr.cell? ⟨W1.heap.size + 1, 0, none⟩ = some (.slice a1 n1 d1) ∧ wr.cell? ⟨W1.heap.size + 1, 1, none⟩ = some (.slice a2 n2 d2)) (fun i _ => 2 - (intOf i).toNat)
      case atStart =>
        have hba : Below W1.heap.size W1 ((W1.alloc (.cells #[.slice a1 n1 d1, .slice a2 n2 d2] 57)).alloc (.cells #[.slice a1 n1 d1, .slice a2 n2 d2] 34)) := ((Below.refl _ _).alloc (Nat.le_refl _) _).alloc (by simp) _
        exact ⟨0, [], by omega, rfl, Lib.hid rfl, Lib.hid (HM.out.below hba), Lib.hid (hb.out.trans (hba.mono hbz)), by simp, Lib.hid (HI1.out.below hba (by omega)), Lib.hid (HI2.out.below hba (by omega)), by go_simp, by go_simp⟩
      case round =>
        obtain ⟨s, P, hs, rfl, hP, hM, hB, hz, hJ1, hJ2, k1, k2⟩ := hrel
        by_cases hs2 : s < 2
        · obtain ⟨av, nv, dv, L, hcell, hJ, hPn⟩ : ∃ av nv dv L, wr.cell? ⟨W1.heap.size + 1, s, none⟩ = some (.slice av nv dv) ∧ Hid (IntsZ wr lo hi (.slice av nv dv) (upL L)) ∧ Hid ((P ++ L = if s + 1 = 0 then [] else if s + 1 = 1 then nd.1 else nd.1 ++ nd.2) ∧ (∀ x ∈ P ++ L, x < k)) := by
            have hp := hP.out
            by_cases h0 : s = 0
            · subst h0
              simp at hp
              subst hp
              exact ⟨_, _, _, nd.1, k1, hJ1, Lib.hid ⟨by simp, fun x hx => HN.out x (Or.inl (by simpa using hx))⟩⟩
            · have h1 : s = 1 := by omega
              subst h1
              simp at hp
              subst hp
              exact ⟨_, _, _, nd.2, k2, hJ2, Lib.hid ⟨by simp, fun x hx => HN.out x (by simpa using hx)⟩⟩
          obtain ⟨W2, hW2⟩ : ∃ W, W = wr := ⟨_, rfl⟩
          subst hW2
          have hLL : (upL L).length = L.length := by unfold upL; simp
          obtain ⟨av', dv', e', _, hLc⟩ := hJ.out
          injection e' with e1 e2 e3
          rw [hLL] at e2
          subst e1 e2
          have HLC := Lib.hid hLc
          have K1 := Lib.hid k1
          have K2 := Lib.hid k2
          clear e3 hLc k1 k2 hLL
          have hLb : (L.length : Int) ≤ 9223372036854775807 := by have := hJ.out; obtain ⟨_, _, _, h, _⟩ := this; unfold upL at h; rw [List.length_map] at h; omega
          have s0 : (0 : Int) ≤ s := by omega
          have s1 : (s : Int) < 2 := by omega
          go_wp2
          go_loopw [32] (fun i wr => ∃ j : Nat, j ≤ L.length ∧ i = .int .i64 j ∧ Hid (RowN w.heap.size w.heap.size f.length (midB f k (accB (bornsOf (f.take k)) (P ++ L.take j))) wr) ∧ Hid (Below w.heap.size w wr) ∧ Hid (∀ b o, b ≠ w.heap.size → wr.cell? ⟨b, o, none⟩ = W2.cell? ⟨b, o, none⟩) ∧ W1.heap.size + 1 < wr.heap.size) (fun i _ => L.length - (intOf i).toNat)
          case atStart => exact ⟨0, Nat.zero_le _, rfl, Lib.hid (by simpa using hM.out), hB, Lib.hid (fun _ _ _ => rfl), hz⟩
          case round =>
            obtain ⟨j, hj, rfl, hR, hBr, hS, hzr⟩ := hrel
            by_cases hjl : j < L.length
            · obtain ⟨x, hx⟩ := lt_get hjl
              obtain ⟨b', off', rfl, hb1, hb2, c1⟩ := HLC.out j (x : Int) (by unfold upL; rw [List.getElem?_map, hx]; rfl)
              have c1' := (hS.out b' (off' + j) (by omega)).trans c1
              have hxk := hPn.out.2 x (List.mem_append_right _ (List.mem_of_getElem? hx))
              have g1 := hR.out.at_ (midB_at f k _ hk)
              have g2 := hR.out.at_ (midB_lt f k _ x hk hxk)
              have hfz : wr.frozen? ⟨w.heap.size, k, none⟩ = false := World.ownsRow.frozenAt hR.out k
              have hacc : accB (bornsOf (f.take k)) (P ++ L.take (j + 1)) = max (accB (bornsOf (f.take k)) (P ++ L.take j)) ((bornsOf (f.take k)).getD x 0 + 1) := by
                rw [List.take_add_one, hx, ← List.append_assoc]
                exact accB_snoc _ _ _
              have hbx := bornsTake_get f HU.out k x hk hxk
              have hle : accB (bornsOf (f.take k)) (P ++ L.take j) ≤ k := accB_le _ _ _ fun y hy => bornsTake_get f HU.out k y hk (hPn.out.2 y (by
                rcases List.mem_append.1 hy with h | h
                · exact List.mem_append_left _ h
                · exact List.mem_append_right _ (List.mem_of_mem_take h)))
              have PUT := fun c' => RowN.put (c' := c') hR.out hk (Nat.le_refl _) hBr.out
              have HPUT := Lib.hid PUT
              have HAC := Lib.hid hacc
              have xl : (x : Int) < f.length := by omega
              have x0 : (0 : Int) ≤ x := by omega
              clear PUT hacc c1 hx hR
              generalize accB (bornsOf (f.take k)) (P ++ L.take j) = acc at g1 hle HPUT HAC
              generalize (bornsOf (f.take k)).getD x 0 = bx at g2 hbx HAC
              have j0 : (0 : Int) ≤ j := by omega
              have j1 : (j : Int) < L.length := by omega
              go_wp2
              have hwr : IntKind.i64.wrap ((bx : Int) + 1) = (bx : Int) + 1 := IntWalk.i64_in _ (by omega)
              go_still_tail 13, (by kernel_rfl)
              change wpList _ _ _ _ _ wr.drew
              go_wp2
              go_roundw
              case rel =>
                have e : (if (acc : Int) < (bx : Int) + 1 then (bx : Int) + 1 else (acc : Int)) = ((max acc (bx + 1) : Nat) : Int) := by split <;> omega
                rw [e]
                have hput := HPUT.out (max acc (bx + 1))
                exact ⟨j + 1, by omega, by go_num, Lib.hid (by rw [HAC.out]; exact drewN_row hput.1), Lib.hid (below_drewN hput.2 1),
                  Lib.hid (fun b o hb => (World.cell?_setCell_other wr ⟨w.heap.size, k, none⟩ ⟨b, o, none⟩ (.int .i64 ((max acc (bx + 1) : Nat) : Int)) (fun e => by injection e with e _ _; exact hb e.symm)).trans (hS.out b o hb)), by simpa using hzr⟩
              case measure => simp [intOf]; omega
            · have hje : j = L.length := by omega
              have R : Hid (RowN w.heap.size w.heap.size f.length (midB f k (accB (bornsOf (f.take k)) (P ++ L))) wr) := Lib.hid (by
                have h2 := hR.out
                rw [hje, List.take_length] at h2
                exact h2)
              have q1 : wr.cell? ⟨W1.heap.size + 1, 0, none⟩ = some (.slice a1 n1 d1) := (hS.out _ _ (by omega)).trans K1.out
              have q2 : wr.cell? ⟨W1.heap.size + 1, 1, none⟩ = some (.slice a2 n2 d2) := (hS.out _ _ (by omega)).trans K2.out
              have J1 := Lib.hid (hJ1.out.keep (fun b o h1 h2 => hS.out b o (by omega)))
              have J2 := Lib.hid (hJ2.out.keep (fun b o h1 h2 => hS.out b o (by omega)))
              have HQ1 := Lib.hid q1
              have HQ2 := Lib.hid q2
              clear hR hje q1 q2
              go_wp2
              go_roundw
              case rel => exact ⟨s + 1, P ++ L, by omega, by go_num, Lib.hid hPn.out.1, R, hBr, hzr, J1, J2, HQ1.out, HQ2.out⟩
              case measure => simp [intOf]; omega
        · have h2 : s = 2 := by omega
          subst h2
          have R : Hid (RowN w.heap.size w.heap.size f.length (valsB f (k + 1)) wr) := Lib.hid (by
            have h3 := hM.out
            have h4 := hP.out
            simp at h4
            rw [h4, ← lastOf_acc, midB_done f k nd HX.out] at h3
            exact h3)
          clear hM hP k1 k2
          go_wp2
          go_roundw
          case rel => exact ⟨k + 1, by omega, by go_num, R, hB⟩
          case measure => simp [intOf]; omega
    · have HA : Hid (RowN w.heap.size w.heap.size f.length (bornsOf f) wr) := by
        have h2 := ho.out
        rw [show k = f.length from by omega, valsB_all] at h2
        exact Lib.hid h2
      clear ho
      go_wp2
      go_ret
      exact ⟨_, rfl, HA.out, hb.out⟩

end Go.Proofs.Ytabfdaofikccmaa
