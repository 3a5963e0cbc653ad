/- spec.l1Put: a number put to its place, once. -/
import Derived.Test.YtabfdaofikccmaaFmBorn
import Derived.Laws.OwnMore
import Derived.Deep.AppendLies
import Derived.Laws.AppendOwnNone
import Derived.Deep.RegionLaw
import Derived.Deep.Onto
import Derived.IntWalk
namespace Go.Proofs.Ytabfdaofikccmaa
open Go.RowKit
theorem putN_at : ∀ (l : List Nat) (n k : Nat), k ≤ l.length → (∀ j x, j < k → l[j]? = some x → x < n) → (∀ x, l[k]? = some x → n ≤ x) → putN l n = if l[k]? = some n then l else l.take k ++ n :: l.drop k
  | [], n, k, hk, _, _ => by simp [putN]
  | y :: l, n, 0, _, _, h2 => by
    have h3 := h2 y rfl
    unfold putN
    by_cases e : y = n
    · subst e; simp
    · rw [if_neg (by omega), if_neg e]
      simp [e]
  | y :: l, n, k + 1, hk, h1, h2 => by
    have h3 := h1 0 y (by omega) rfl
    unfold putN
    rw [if_pos h3, putN_at l n k (by simpa using hk) (fun j x hj hx => h1 (j + 1) x (by omega) (by simpa using hx)) (fun x hx => h2 x (by simpa using hx))]
    simp only [List.getElem?_cons_succ, List.take_succ_cons, List.drop_succ_cons]
    split
    · rfl
    · rfl
/-- a slice of one-cell values that is read -/
def SrcI (w : World) (y : Value) (m : Nat) (news : List Value) : Prop :=
  news.length = m ∧ (∀ u ∈ news, u.oneCell' = true) ∧ ((y = .slice none 0 0 ∧ m = 0) ∨ ∃ ad c, y = .slice (some ad) m c ∧ ∀ j u, news[j]? = some u → w.cell? (ad.add j) = some u)
theorem iv_one (l : List Nat) : ∀ u ∈ l.map iv, u.oneCell' = true := fun u hu => by
  obtain ⟨x, _, rfl⟩ := List.mem_map.1 hu
  rfl
theorem src_one {w : World} {B : Nat} {n : Nat} (h : w.cell? ⟨B, 0, none⟩ = some (.int .i64 n)) : SrcI w (.slice (some ⟨B, 0, none⟩) 1 1) 1 [iv n] :=
  ⟨rfl, iv_one [n], Or.inr ⟨_, _, rfl, fun j u hu => by
    have hj : j = 0 := by have := get_lt hu; simp at this; omega
    subst hj
    simp at hu
    subst hu
    exact h⟩⟩
theorem own_e1 (w : World) : (w.alloc (.cells #[] 3)).drew.ownsRow w.heap.size 3 1 (.slice (some ⟨w.heap.size, 0, none⟩) 0 0) 0 [] := World.ownsRow.drew (World.ownsRow_lit w #[] 0 (Nat.le_refl _) (by unfold maxLen; omega) rfl)
theorem own_e2 (w : World) (o : Obj) : ((w.alloc (.cells #[] 3)).alloc o).drew.ownsRow w.heap.size 3 1 (.slice (some ⟨w.heap.size, 0, none⟩) 0 0) 0 [] :=
  World.ownsRow.drew (World.ownsRow.alloc (World.ownsRow_lit w #[] 0 (Nat.le_refl _) (by unfold maxLen; omega) rfl) o)
theorem own_e3 (w : World) (o : Obj) : ((w.alloc o).alloc (.cells #[] 3)).drew.ownsRow w.heap.size 3 1 (.slice (some ⟨w.heap.size + 1, 0, none⟩) 0 0) 0 [] := by
  have h := World.ownsRow_lit (e := 3) (size := 1) (w.alloc o) #[] 0 (Nat.le_refl _) (by unfold maxLen; omega) rfl
  have hz : (w.alloc o).heap.size = w.heap.size + 1 := by simp
  rw [hz] at h
  exact World.ownsRow.drew (World.ownsRow.mono h (by omega))
/-- an append of whole numbers, at a step of a region that draws -/
theorem base_e1 (w : World) : w.heap.size ≤ (w.alloc (.cells #[] 3)).drew.heap.size := by have := (World.ownsRow.lt (own_e1 w) _ rfl); exact Nat.le_of_lt (Nat.lt_of_le_of_lt this.1 this.2)
theorem base_e2 (w : World) (o : Obj) : w.heap.size ≤ ((w.alloc (.cells #[] 3)).alloc o).drew.heap.size := by have := (World.ownsRow.lt (own_e2 w o) _ rfl); exact Nat.le_of_lt (Nat.lt_of_le_of_lt this.1 this.2)
theorem base_e3 (w : World) (o : Obj) : w.heap.size ≤ ((w.alloc o).alloc (.cells #[] 3)).drew.heap.size := by have := (World.ownsRow.lt (own_e3 w o) _ rfl); exact Nat.le_of_lt (Nat.lt_of_le_of_lt this.1 this.2)
theorem below_e1 (w : World) : Below w.heap.size w (w.alloc (.cells #[] 3)).drew := below_drewN ((Below.refl _ _).alloc (Nat.le_refl _) _) 1
theorem below_e2 (w : World) (o o' : Obj) : Below w.heap.size w ((w.alloc o).alloc o').drew := below_drewN (((Below.refl _ _).alloc (Nat.le_refl _) _).alloc (by simp) _) 1
theorem step_app {ops : Array Oper} {o : Oper} {a : Act} {w : World} {K : Act → World → Prop} {Q : Exit → Act → World → Prop} {E : Prop} (hgd : o.guard = none) (s x : Operand)
    (ho : o.op = .call { callee := .builtin .append, args := #[s, x], argTypes := #[34, 34] })
    {base : Nat} {v : Value} {n : Nat} {xs : List Value} (hown : w.ownsRow base 3 1 v n xs) (hs : a.eval s = v) {y : Value} {m : Nat} {news : List Value} (hsrc : SrcI w y m news) (hx : a.eval x = y)
    (hsmall : n + m ≤ 3000000) (hbase : base ≤ w.heap.size)
    (h : ∀ v' w', w'.ownsRow base 3 1 v' (n + m) (xs ++ news) → w.grownBy w' v.ownBlock → K (a.put o.dst v') w') :
    if Region.wanted o (yielded ops a.tmps) = true then Oper.wp Try.prog o a w K Q else E := by
  obtain ⟨i0, hi0, hz0, hz1, hz2⟩ := info_parts infoIntA
  have hw : Region.wanted o (yielded ops a.tmps) = true := by simp [Region.wanted, hgd]
  rw [if_pos hw]
  obtain ⟨hl, h1, hsrc⟩ := hsrc
  rcases hsrc with ⟨rfl, hm⟩ | ⟨ad, c, rfl, hc⟩
  · subst hm
    have hn : news = [] := List.length_eq_zero_iff.1 hl
    subst hn
    have hrun := run_append_owned_none (P := Try.prog) (w := w) base 34 o.type 3 i0 1 Try.underlying34 hi0 v n xs hown
    unfold Oper.wp
    simp [execOp, ho, resolve, invoke, builtin, hs, hx, hrun, Result.andThen]
    exact h v w (by simpa using hown) ⟨rfl, rfl, rfl, Nat.le_refl _, fun _ _ _ => rfl⟩
  · exact wp_append_own w s x 34 ho base 3 i0 (.int .i64 0) 1 8 Try.underlying34 hi0 hz0 hz1 hz2 rfl (by decide) v n xs hs hown ad m c news hx (by rw [hl, Nat.mul_one]) hc h1 (by unfold maxLen; omega) (by omega) hbase fun v' w' h2 h3 _ => h v' w' h2 h3
/-- what owns a list with a number put in reads as it -/
theorem ins_ints {w3 : World} {base g3 c3 k n : Nat} {l : List Nat} (hk : k ≤ l.length) (h : w3.ownsRow base 3 1 (.slice (some ⟨g3, 0, none⟩) (0 + k + 1 + (l.length - k)) c3) (0 + k + 1 + (l.length - k)) ([] ++ (l.take k).map iv ++ [iv n] ++ (l.drop k).map iv)) :
    IntsZ w3 base w3.heap.size (.slice (some ⟨g3, 0, none⟩) (0 + k + 1 + (l.length - k)) c3) (upL (l.take k ++ n :: l.drop k)) := by
  have e : ([] ++ (l.take k).map iv ++ [iv n] ++ (l.drop k).map iv) = (upL (l.take k ++ n :: l.drop k)).map (Value.int .i64) := by
    unfold upL iv
    simp [List.map_map, Function.comp_def]
  have hlen : (upL (l.take k ++ n :: l.drop k)).length = 0 + k + 1 + (l.length - k) := by unfold upL; simp; omega
  rw [e, ← hlen] at h
  rw [← hlen]
  exact (ints_own h (World.ownsRow.caps h |>.1 |> fun h1 => by have := (World.ownsRow.caps h).2; omega) (World.ownsRow.lt h _ rfl).2).wide (World.ownsRow.lt h _ rfl).1 (World.ownsRow.lt h _ rfl).2
set_option maxRecDepth 100000 in
set_option maxHeartbeats 4000000 in
theorem l1Put_calls (b off c : Nat) (l : List Nat) (n : Nat) (w : World) (lo hi : Nat) (hh : hi ≤ w.heap.size) (hv : IntsZ w lo hi (.slice (some ⟨b, off, none⟩) l.length c) (upL l)) (hlo : lo ≤ b) (hlt0 : b < w.heap.size) (hl : l.length ≤ 1000000) (hn : n ≤ 1000000) :
    Calls Try.prog 106 #[.slice (some ⟨b, off, none⟩) l.length c, .int .i64 n] w fun e w' => ∃ b' off' c', e = .returned (.slice (some ⟨b', off', none⟩) (putN l n).length c') ∧ IntsZ w' lo w'.heap.size (.slice (some ⟨b', off', none⟩) (putN l n).length c') (upL (putN l n)) ∧ lo ≤ b' ∧ b' < w'.heap.size ∧ Below w.heap.size w w' := by
  obtain ⟨i0, hi0, hz0, hz1, hz2⟩ := info_parts infoIntA
  have HV := Lib.hid hv
  have hLL : (upL l).length = l.length := by unfold upL; simp
  obtain ⟨ao, cc, e0, hcc, hc⟩ := hv
  rw [hLL] at hcc e0
  injection e0 with e1 e2 e3
  subst e1 e3
  clear e2 hLL
  obtain ⟨hcc1, hcc2⟩ := hcc
  have hci : (l.length : Int) ≤ c := by omega
  have HC : Hid (∀ (j x : Nat), l[j]? = some x → b < hi ∧ w.cell? ⟨b, off + j, none⟩ = some (.int .i64 x)) := Lib.hid (fun j x hx => by
    obtain ⟨b', off', e, _, h2, h3⟩ := hc j x (by unfold upL; rw [List.getElem?_map, hx]; rfl)
    injection e with e
    injection e with e1 e2
    subst e1 e2
    exact ⟨h2, h3⟩)
  clear hc
  have HF0 : Hid (∀ k, k ≤ l.length → ∀ W, Below w.heap.size w W → SrcI W (.slice (some ⟨b, off, none⟩) k c) k ((l.take k).map iv)) := Lib.hid (fun k hk W hW => by
    refine ⟨by simp; omega, iv_one _, Or.inr ⟨_, _, rfl, fun j u hu => ?_⟩⟩
    rw [List.getElem?_map] at hu
    cases hj : (l.take k)[j]? with
    | none => rw [hj] at hu; cases hu
    | some x =>
      rw [hj] at hu
      injection hu with hu
      subst hu
      have hjk : j < k := by have := get_lt hj; simp at this; omega
      rw [List.getElem?_take_of_lt hjk] at hj
      obtain ⟨h1, h2⟩ := HC.out j x hj
      rw [Go.WideShapes.add_plain]
      exact (bcell hW b _ (by omega)).trans h2)
  have HD0 : Hid (∀ k, k ≤ l.length → ∀ W, Below w.heap.size w W → SrcI W (.slice (if c = k then some ⟨b, off, none⟩ else some ⟨b, off + k, none⟩) (l.length - k) (c - k)) (l.length - k) ((l.drop k).map iv)) := Lib.hid (fun k hk W hW => by
    have key : ∀ (j : Nat) (u : Value), ((l.drop k).map iv)[j]? = some u → W.cell? ⟨b, off + k + j, none⟩ = some u := fun j u hu => by
      rw [List.getElem?_map] at hu
      cases hj : (l.drop k)[j]? with
      | none => rw [hj] at hu; cases hu
      | some x =>
        rw [hj] at hu
        injection hu with hu
        subst hu
        rw [List.getElem?_drop] at hj
        obtain ⟨h1, h2⟩ := HC.out _ x hj
        rw [Nat.add_assoc]
        exact (bcell hW b _ (by omega)).trans h2
    refine ⟨by simp, iv_one _, Or.inr ?_⟩
    by_cases hck : c = k
    · rw [if_pos hck]
      refine ⟨_, _, rfl, fun j u hu => ?_⟩
      have := get_lt hu
      simp at this
      omega
    · rw [if_neg hck]
      refine ⟨_, _, rfl, fun j u hu => ?_⟩
      rw [Go.WideShapes.add_plain]
      exact key j u hu)
  go_enter Try.func106, Try.ntmps106
  go_wp2
  go_loop [5] (fun i => ∃ k : Nat, k ≤ l.length ∧ i = .int .i64 k ∧ Hid (∀ j x, j < k → l[j]? = some x → x < n)) (fun i => l.length - (intOf i).toNat)
  case atStart => exact ⟨0, Nat.zero_le _, rfl, Lib.hid (fun j x hj => by omega)⟩
  case round =>
    obtain ⟨k, hk, rfl, hlt⟩ := hrel
    have b0 : (0 : Int) ≤ k := by omega
    have kc : (k : Int) ≤ c := by omega
    have kc2 : (k : Int) ≤ l.length := by omega
    have HF := Lib.hid (HF0.out k hk)
    have HD := Lib.hid (HD0.out k hk)
    by_cases hkl : k < l.length
    · obtain ⟨x, hx⟩ := lt_get hkl
      obtain ⟨_, c1⟩ := HC.out k x hx
      have b1 : (k : Int) < l.length := by omega
      by_cases hxn : x < n
      · have R : Hid (∀ j y, j < k + 1 → l[j]? = some y → y < n) := Lib.hid (fun j y hj hy => by
          by_cases e : j = k
          · subst e
            rw [hx] at hy
            injection hy with hy
            omega
          · exact hlt.out j y (by omega) hy)
        have hxi : (x : Int) < n := by omega
        clear hx hlt
        go_wp2
        go_round
        case rel => exact ⟨k + 1, by omega, by go_num, R⟩
        case measure => simp [intOf]; omega
      · by_cases hxe : x = n
        · subst hxe
          have R : Hid (putN l x = l) := Lib.hid (by rw [putN_at l x k hk hlt.out (fun y hy => by rw [hx] at hy; injection hy with hy; omega), if_pos hx])
          have hxi : ¬ (x : Int) < x := by omega
          clear hx hlt
          go_wp2
          go_ret
          refine ⟨b, off, c, by rw [R.out]; rfl, ?_, hlo, hlt0, Below.refl _ _⟩
          rw [R.out]
          exact HV.out.wide (Nat.le_refl _) hh
        · have hnx : n < x := by omega
          have q1 : ¬ (x : Int) < n := by omega
          have q2 : ((x : Int) == n) = false := by rw [beq_eq_false_iff_ne]; omega
          have RP : Hid (putN l n = l.take k ++ n :: l.drop k) := Lib.hid (by
            rw [putN_at l n k hk hlt.out (fun y hy => by rw [hx] at hy; injection hy with hy; omega), if_neg (by rw [hx]; intro e; injection e with e; exact hxe e)])
          clear hx hlt
          go_wp2
          go_region_law (first
            | (refine step_app rfl _ _ rfl hown2 rfl (HD.out _ HB2) rfl (by omega) HB2.size ?_; intro v3 w3 hown3 hgrow3; have HB3 : Below w.heap.size w w3 := Below.grown HB2 hgrow3 HB2.size (fun q hq => (World.ownsRow.lt hown2 q hq).1))
            | (refine step_app rfl _ _ rfl hown1 rfl (src_one (n := n) ((hgrow1.cell_far ⟨w.heap.size + 1, 0, none⟩ (by simp) (by simp [Value.ownBlock])).trans (by go_simp))) rfl (by omega) HB1.size ?_; intro v2 w2 hown2 hgrow2; have HB2 : Below w.heap.size w w2 := Below.grown HB1 hgrow2 HB1.size (fun q hq => (World.ownsRow.lt hown1 q hq).1))
            | (refine step_app rfl _ _ rfl hown1 rfl (src_one (n := n) ((hgrow1.cell_far ⟨w.heap.size, 0, none⟩ (by simp; omega) (by simp [Value.ownBlock])).trans (by go_simp))) rfl (by omega) HB1.size ?_; intro v2 w2 hown2 hgrow2; have HB2 : Below w.heap.size w w2 := Below.grown HB1 hgrow2 HB1.size (fun q hq => (World.ownsRow.lt hown1 q hq).1))
            | (refine step_app rfl _ _ rfl (World.ownsRow.alloc hown1 _) rfl (src_one (B := w1.heap.size) (n := n) (by go_simp)) rfl (by omega) (HB1.alloc HB1.size _).size ?_; intro v2 w2 hown2 hgrow2; have HB2 : Below w.heap.size w w2 := Below.grown (HB1.alloc HB1.size _) hgrow2 (HB1.alloc HB1.size _).size (fun q hq => (World.ownsRow.lt hown1 q hq).1))
            | (refine step_app rfl _ _ rfl (own_e1 w) rfl (HF.out _ (below_e1 w)) rfl (by omega) (base_e1 w) ?_; intro v1 w1 hown1 hgrow1; have HB1 : Below w.heap.size w w1 := Below.grown (below_e1 w) hgrow1 (base_e1 w) (fun q hq => (World.ownsRow.lt (own_e1 w) q hq).1))
            | (refine step_app rfl _ _ rfl (own_e2 w _) rfl (HF.out _ (below_e2 w _ _)) rfl (by omega) (base_e2 w _) ?_; intro v1 w1 hown1 hgrow1; have HB1 : Below w.heap.size w w1 := Below.grown (below_e2 w _ _) hgrow1 (base_e2 w _) (fun q hq => (World.ownsRow.lt (own_e2 w (.cells #[] 3)) q hq).1))
            | (refine step_app rfl _ _ rfl (own_e3 w _) rfl (HF.out _ (below_e2 w _ _)) rfl (by omega) (base_e3 w _) ?_; intro v1 w1 hown1 hgrow1; have HB1 : Below w.heap.size w w1 := Below.grown (below_e2 w _ _) hgrow1 (base_e3 w _) (fun q hq => (World.ownsRow.lt (own_e3 w (.cells #[] 3)) q hq).1)))
          all_goals
            obtain ⟨g3, c3, rfl, hg30, hg31⟩ := hown3.form (by omega)
            have HO3 : Hid (IntsZ w3 lo w3.heap.size (.slice (some ⟨g3, 0, none⟩) (0 + k + 1 + (l.length - k)) c3) (upL (putN l n))) := Lib.hid (by
              rw [RP.out]
              exact (ins_ints hk hown3).wide (by omega) (Nat.le_refl _))
            have HB3' := Lib.hid HB3
            have HLN : Hid ((putN l n).length = 0 + k + 1 + (l.length - k)) := Lib.hid (by rw [RP.out]; simp; omega)
            clear hown3 hgrow3 hown2 hgrow2 hown1 hgrow1 HB1 HB2 HB3
            go_wp2
            all_goals
              go_ret
              exact ⟨g3, 0, c3, by rw [HLN.out, Nat.zero_add]; rfl, by rw [HLN.out]; exact HO3.out, by omega, hg31, HB3'.out⟩
    · have b1 : ¬ (k : Int) < l.length := by omega
      have RP : Hid (putN l n = l.take k ++ n :: l.drop k) := Lib.hid (by
        have hnone : l[k]? = none := List.getElem?_eq_none (by omega)
        rw [putN_at l n k hk hlt.out (fun y hy => by rw [hnone] at hy; cases hy), if_neg (by rw [hnone]; intro e; cases e)])
      clear hlt
      go_wp2
      go_region_law (first
        | (refine step_app rfl _ _ rfl hown2 rfl (HD.out _ HB2) rfl (by omega) HB2.size ?_; intro v3 w3 hown3 hgrow3; have HB3 : Below w.heap.size w w3 := Below.grown HB2 hgrow3 HB2.size (fun q hq => (World.ownsRow.lt hown2 q hq).1))
        | (refine step_app rfl _ _ rfl hown1 rfl (src_one (n := n) ((hgrow1.cell_far ⟨w.heap.size + 1, 0, none⟩ (by simp) (by simp [Value.ownBlock])).trans (by go_simp))) rfl (by omega) HB1.size ?_; intro v2 w2 hown2 hgrow2; have HB2 : Below w.heap.size w w2 := Below.grown HB1 hgrow2 HB1.size (fun q hq => (World.ownsRow.lt hown1 q hq).1))
        | (refine step_app rfl _ _ rfl hown1 rfl (src_one (n := n) ((hgrow1.cell_far ⟨w.heap.size, 0, none⟩ (by simp; omega) (by simp [Value.ownBlock])).trans (by go_simp))) rfl (by omega) HB1.size ?_; intro v2 w2 hown2 hgrow2; have HB2 : Below w.heap.size w w2 := Below.grown HB1 hgrow2 HB1.size (fun q hq => (World.ownsRow.lt hown1 q hq).1))
        | (refine step_app rfl _ _ rfl (World.ownsRow.alloc hown1 _) rfl (src_one (B := w1.heap.size) (n := n) (by go_simp)) rfl (by omega) (HB1.alloc HB1.size _).size ?_; intro v2 w2 hown2 hgrow2; have HB2 : Below w.heap.size w w2 := Below.grown (HB1.alloc HB1.size _) hgrow2 (HB1.alloc HB1.size _).size (fun q hq => (World.ownsRow.lt hown1 q hq).1))
        | (refine step_app rfl _ _ rfl (own_e1 w) rfl (HF.out _ (below_e1 w)) rfl (by omega) (base_e1 w) ?_; intro v1 w1 hown1 hgrow1; have HB1 : Below w.heap.size w w1 := Below.grown (below_e1 w) hgrow1 (base_e1 w) (fun q hq => (World.ownsRow.lt (own_e1 w) q hq).1))
        | (refine step_app rfl _ _ rfl (own_e2 w _) rfl (HF.out _ (below_e2 w _ _)) rfl (by omega) (base_e2 w _) ?_; intro v1 w1 hown1 hgrow1; have HB1 : Below w.heap.size w w1 := Below.grown (below_e2 w _ _) hgrow1 (base_e2 w _) (fun q hq => (World.ownsRow.lt (own_e2 w (.cells #[] 3)) q hq).1))
        | (refine step_app rfl _ _ rfl (own_e3 w _) rfl (HF.out _ (below_e2 w _ _)) rfl (by omega) (base_e3 w _) ?_; intro v1 w1 hown1 hgrow1; have HB1 : Below w.heap.size w w1 := Below.grown (below_e2 w _ _) hgrow1 (base_e3 w _) (fun q hq => (World.ownsRow.lt (own_e3 w (.cells #[] 3)) q hq).1)))
      all_goals
        obtain ⟨g3, c3, rfl, hg30, hg31⟩ := hown3.form (by omega)
        have HO3 : Hid (IntsZ w3 lo w3.heap.size (.slice (some ⟨g3, 0, none⟩) (0 + k + 1 + (l.length - k)) c3) (upL (putN l n))) := Lib.hid (by
          rw [RP.out]
          exact (ins_ints hk hown3).wide (by omega) (Nat.le_refl _))
        have HB3' := Lib.hid HB3
        have HLN : Hid ((putN l n).length = 0 + k + 1 + (l.length - k)) := Lib.hid (by rw [RP.out]; simp; omega)
        clear hown3 hgrow3 hown2 hgrow2 hown1 hgrow1 HB1 HB2 HB3
        go_wp2
        all_goals
          go_ret
          exact ⟨g3, 0, c3, by rw [HLN.out, Nat.zero_add]; rfl, by rw [HLN.out]; exact HO3.out, by omega, hg31, HB3'.out⟩

end Go.Proofs.Ytabfdaofikccmaa
