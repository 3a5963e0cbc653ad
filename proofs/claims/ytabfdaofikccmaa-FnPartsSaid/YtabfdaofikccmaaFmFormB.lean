/- (*spec.l3Book).form: what it keeps in memory. -/
import Derived.Test.YtabfdaofikccmaaFmReach
import Derived.Test.YtabfdaofikccmaaFmAdd
import Derived.Test.YtabfdaofikccmaaFmAhead
import Derived.Test.YtabfdaofikccmaaFmFormM
namespace Go.Proofs.Ytabfdaofikccmaa
open Go.RowKit
/-- a row of the call's own that holds these numbers -/
def RowI (base g n : Nat) (l : List Nat) (wr : World) : Prop := wr.ownsRow base 3 1 (.slice (some ⟨g, 0, none⟩) n n) n (l.map iv)
theorem RowI.at_ {base g n x v : Nat} {l : List Nat} {wr : World} (h : RowI base g n l wr) (hx : l[x]? = some v) : wr.cell? ⟨g, x, none⟩ = some (.int .i64 v) := by
  have hl : (l.map iv).length = n * 1 := h.1
  have hlt := get_lt hx
  rw [List.length_map] at hl
  have := World.ownsRow.cellAt h x (by omega)
  rw [this, List.getElem?_map, hx]
  rfl
theorem RowI.len {base g n : Nat} {l : List Nat} {wr : World} (h : RowI base g n l wr) : l.length = n := by
  have hl : (l.map iv).length = n * 1 := h.1
  rw [List.length_map] at hl
  omega
theorem RowI.ints {base g n : Nat} {l : List Nat} {wr : World} (h : RowI base g n l wr) (hn : n ≤ 1000000) : IntsZ wr g (g + 1) (.slice (some ⟨g, 0, none⟩) n n) (upL l) := (own_intsA h hn).2
theorem RowI.set {base g n x u : Nat} {l : List Nat} {wr : World} (h : RowI base g n l wr) : RowI base g n (l.set x u) (wr.setCell ⟨g, x, none⟩ (.int .i64 u)) := by
  have := World.ownsRow.stored h x (.int .i64 (u : Int))
  unfold RowI
  rw [List.map_set]
  exact this.1
theorem rowI_made {base g n : Nat} {w1 : World} (h : w1.ownsRow base 3 1 (.slice (some ⟨g, 0, none⟩) n n) n (madeCells (Value.int .i64 0).cells (n * 1)).toList) : RowI base g n (List.replicate n 0) w1 := by
  have e : (madeCells (Value.int .i64 0).cells (n * 1)).toList = (List.replicate n 0).map iv := by
    rw [List.map_replicate, Nat.mul_one]
    exact made_one' _ n
  rw [e] at h
  exact h
/-- a list of numbers in one block -/
def InL (s : Nat) (F : Nat → Prop) (w : World) (v : Value) (l : List Nat) : Prop := ∃ b o c, v = .slice (some ⟨b, o, none⟩) l.length c ∧ s ≤ b ∧ b < w.heap.size ∧ ¬ F b ∧ IntsZ w b (b + 1) v (upL l)
theorem InL.only {s s' : Nat} {F F' G : Nat → Prop} {w w' : World} {v : Value} {l : List Nat} (h : InL s F w v l) (ho : Only w w' G) (hs : s' ≤ s) (hG : ∀ b, s ≤ b → b < w.heap.size → ¬ F b → ¬ G b ∧ ¬ F' b) : InL s' F' w' v l := by
  obtain ⟨b, o, c, h1, h2, h3, h4, h5⟩ := h
  obtain ⟨g1, g2⟩ := hG b h2 h3 h4
  exact ⟨b, o, c, h1, by omega, Nat.lt_of_lt_of_le h3 ho.size, g2, h5.keep (fun x y hx hy => by
    have : x = b := by omega
    subst this
    exact ho.cell h3 g1)⟩
theorem InL.below {s : Nat} {F : Nat → Prop} {w w' : World} {v : Value} {l : List Nat} (h : InL s F w v l) (hb : Below w.heap.size w w') : InL s F w' v l :=
  h.only (Only.of_below (F := fun _ => False) hb) (Nat.le_refl _) (fun _ _ _ h => ⟨id, h⟩)
theorem InL.ints {s : Nat} {F : Nat → Prop} {w : World} {v : Value} {l : List Nat} (h : InL s F w v l) : IntsZ w s w.heap.size v (upL l) := by
  obtain ⟨b, o, c, h1, h2, h3, h4, h5⟩ := h
  exact h5.wide h2 h3
theorem InL.of {s b o c : Nat} {w : World} {l : List Nat} (h : IntsZ w s w.heap.size (.slice (some ⟨b, o, none⟩) l.length c) (upL l)) (h1 : s ≤ b) (h2 : b < w.heap.size) : InL s (fun _ => False) w (.slice (some ⟨b, o, none⟩) l.length c) l := by
  refine ⟨b, o, c, rfl, h1, h2, id, ?_⟩
  obtain ⟨ao, cc, e, hc, hn⟩ := h
  refine ⟨ao, cc, e, hc, fun j x hx => ?_⟩
  obtain ⟨b', o', e', g1, g2, g3⟩ := hn j x hx
  obtain ⟨q1, _, _⟩ : some (⟨b, o, none⟩ : Addr) = ao ∧ _ ∧ _ := by injection e with q1 q2 q3; exact ⟨q1, q2, q3⟩
  rw [e'] at q1
  injection q1 with q1
  injection q1 with q1 q2
  subst q1
  exact ⟨b, o', e', Nat.le_refl _, Nat.lt_succ_self _, g3⟩
theorem InL.one {s : Nat} {F : Nat → Prop} {w : World} {v : Value} {l : List Nat} (h : InL s F w v l) : v.oneCell' = true := by
  obtain ⟨b, o, c, rfl, _⟩ := h
  rfl
/-- nodes in a row of the call's own -/
structure LvN (s : Nat) (F : Nat → Prop) (w : World) (v : Value) (vs : List (Value × Value)) (L : List Nd) : Prop where
  nodes : w.ownsRow s 57 2 v L.length (rowN2 vs)
  len : vs.length = L.length
  inner : ∀ (j : Nat) (nd : Nd) (p : Value × Value), L[j]? = some nd → vs[j]? = some p → InL s F w p.1 nd.1 ∧ InL s F w p.2 nd.2
theorem LvN.only {s : Nat} {F F' G : Nat → Prop} {w w' : World} {v : Value} {vs : List (Value × Value)} {L : List Nd} (h : LvN s F w v vs L) (ho : Only w w' G) (hv : ∀ g, v.ownBlock = some g → ¬ G g)
    (hG : ∀ b, s ≤ b → b < w.heap.size → ¬ F b → ¬ G b ∧ ¬ F' b) : LvN s F' w' v vs L :=
  ⟨own_only h.nodes ho hv, h.len, fun j nd p h1 h2 => ⟨(h.inner j nd p h1 h2).1.only ho (Nat.le_refl _) hG, (h.inner j nd p h1 h2).2.only ho (Nat.le_refl _) hG⟩⟩
theorem LvN.below {s : Nat} {F : Nat → Prop} {w w' : World} {v : Value} {vs : List (Value × Value)} {L : List Nd} (h : LvN s F w v vs L) (hb : Below w.heap.size w w') : LvN s F w' v vs L :=
  h.only (Only.of_below (F := fun _ => False) hb) (fun _ _ => id) (fun _ _ _ h => ⟨id, h⟩)
theorem rowN2_app (a b : List (Value × Value)) : rowN2 (a ++ b) = rowN2 a ++ rowN2 b := by simp [rowN2]
theorem rowN2_take : ∀ (vs : List (Value × Value)) (k : Nat), (rowN2 vs).take (k * 2) = rowN2 (vs.take k)
  | [], k => by simp [rowN2]
  | p :: vs, 0 => by simp [rowN2]
  | p :: vs, k + 1 => by
    have := rowN2_take vs k
    show (p.1 :: p.2 :: rowN2 vs).take ((k + 1) * 2) = p.1 :: p.2 :: rowN2 (vs.take k)
    rw [show (k + 1) * 2 = k * 2 + 1 + 1 from by omega, List.take_succ_cons, List.take_succ_cons, this]
theorem rowN2_drop : ∀ (vs : List (Value × Value)) (k : Nat), (rowN2 vs).drop (k * 2) = rowN2 (vs.drop k)
  | [], k => by simp [rowN2]
  | p :: vs, 0 => by simp [rowN2]
  | p :: vs, k + 1 => by
    have := rowN2_drop vs k
    show (p.1 :: p.2 :: rowN2 vs).drop ((k + 1) * 2) = rowN2 (vs.drop k)
    rw [show (k + 1) * 2 = k * 2 + 1 + 1 from by omega, List.drop_succ_cons, List.drop_succ_cons, this]
theorem LvN.one {s : Nat} {F : Nat → Prop} {w : World} {v : Value} {vs : List (Value × Value)} {L : List Nd} (h : LvN s F w v vs L) : ∀ u ∈ rowN2 vs, u.oneCell' = true := fun u hu => by
  unfold rowN2 at hu
  obtain ⟨p, hp, hu⟩ := List.mem_flatMap.1 hu
  obtain ⟨j, hj⟩ := List.getElem?_of_mem hp
  have hjl := get_lt hj
  obtain ⟨nd, hnd⟩ := lt_get (l := L) (i := j) (by rw [← h.len]; exact hjl)
  obtain ⟨i1, i2⟩ := h.inner j nd p hnd hj
  simp only [List.mem_cons, List.not_mem_nil, or_false] at hu
  rcases hu with rfl | rfl
  · exact i1.one
  · exact i2.one
/-- a slice of nodes that is read: two cells each -/
def SrcN (w : World) (y : Value) (m : Nat) (news : List Value) : Prop :=
  news.length = m * 2 ∧ (∀ u ∈ news, u.oneCell' = true) ∧ ∃ ad c, y = .slice (some ad) m c ∧ ∀ j u, news[j]? = some u → w.cell? (ad.add j) = some u
theorem LvN.src_take {s : Nat} {F : Nat → Prop} {w : World} {g c : Nat} {vs : List (Value × Value)} {L : List Nd} (h : LvN s F w (.slice (some ⟨g, 0, none⟩) L.length c) vs L) (k : Nat) (hk : k ≤ L.length) (W : World) (hW : Below w.heap.size w W) :
    SrcN W (.slice (some ⟨g, 0, none⟩) k c) k (rowN2 (vs.take k)) := by
  have hW' := h.below hW
  have hl := hW'.len
  refine ⟨by rw [rowN2_len, List.length_take]; omega, fun u hu => hW'.one u ?_, _, _, rfl, fun j u hu => ?_⟩
  · rw [← rowN2_take] at hu
    exact List.mem_of_mem_take hu
  · have hj := get_lt hu
    rw [rowN2_len, List.length_take] at hj
    rw [← rowN2_take, List.getElem?_take_of_lt (by omega)] at hu
    have := World.ownsRow.cells hW'.nodes rfl j u hu
    exact this
theorem LvN.src_drop {s : Nat} {F : Nat → Prop} {w : World} {g c : Nat} {vs : List (Value × Value)} {L : List Nd} (h : LvN s F w (.slice (some ⟨g, 0, none⟩) L.length c) vs L) (k : Nat) (hk : k ≤ L.length) (W : World) (hW : Below w.heap.size w W) :
    SrcN W (.slice (if c = k then some ⟨g, 0, none⟩ else some ⟨g, k * 2, none⟩) (L.length - k) (c - k)) (L.length - k) (rowN2 (vs.drop k)) := by
  have hW' := h.below hW
  have hl := hW'.len
  have hcap := (World.ownsRow.caps hW'.nodes).1
  refine ⟨by rw [rowN2_len, List.length_drop]; omega, fun u hu => hW'.one u ?_, ?_⟩
  · rw [← rowN2_drop] at hu
    exact List.mem_of_mem_drop hu
  · by_cases hck : c = k
    · rw [if_pos hck]
      refine ⟨_, _, rfl, fun j u hu => ?_⟩
      have := get_lt hu
      rw [rowN2_len, List.length_drop] at this
      omega
    · rw [if_neg hck]
      refine ⟨_, _, rfl, fun j u hu => ?_⟩
      rw [← rowN2_drop, List.getElem?_drop] at hu
      have := World.ownsRow.cells hW'.nodes rfl _ u hu
      rw [Go.WideShapes.add_plain] at this ⊢
      rw [Nat.zero_add] at this
      exact this
theorem src_nd {w : World} {B : Nat} {v1 v2 : Value} (h1 : w.cell? ⟨B, 0, none⟩ = some v1) (h2 : w.cell? ⟨B, 1, none⟩ = some v2) (o1 : v1.oneCell' = true) (o2 : v2.oneCell' = true) : SrcN w (.slice (some ⟨B, 0, none⟩) 1 1) 1 [v1, v2] :=
  ⟨rfl, fun u hu => by
    simp only [List.mem_cons, List.not_mem_nil, or_false] at hu
    rcases hu with rfl | rfl
    · exact o1
    · exact o2, _, _, rfl, fun j u hu => by
    rw [Go.WideShapes.add_plain, Nat.zero_add]
    match j, hu with
    | 0, hu => simp at hu; subst hu; exact h1
    | 1, hu => simp at hu; subst hu; exact h2⟩
/-- an append of nodes, at a step of a region that draws -/
theorem step_app_nd {ops : Array Oper} {o : Oper} {a : Act} {w : World} {K : Act → World → Prop} {Q : Exit → Act → World → Prop} {E : Prop} (hgd : o.guard = none) (s x : Operand)
    (ho : o.op = .call { callee := .builtin .append, args := #[s, x], argTypes := #[26, 26] })
    {base : Nat} {v : Value} {n : Nat} {xs : List Value} (hown : w.ownsRow base 57 2 v n xs) (hs : a.eval s = v) {y : Value} {m : Nat} {news : List Value} (hsrc : SrcN w y m news) (hx : a.eval x = y)
    (hsmall : n + m ≤ 3000000) (hbase : base ≤ w.heap.size)
    (h : ∀ v' w', w'.ownsRow base 57 2 v' (n + m) (xs ++ news) → w.grownBy w' v.ownBlock → K (a.put o.dst v') w') :
    if Region.wanted o (yielded ops a.tmps) = true then Oper.wp Try.prog o a w K Q else E := by
  obtain ⟨i0, hi0, hz0, hz1, hz2⟩ := info_parts infoNodeA
  have hw : Region.wanted o (yielded ops a.tmps) = true := by simp [Region.wanted, hgd]
  rw [if_pos hw]
  obtain ⟨hl, h1, ad, c, rfl, hc⟩ := hsrc
  exact wp_append_own w s x 26 ho base 57 i0 (.agg #[.slice none 0 0, .slice none 0 0]) 2 48 Try.underlying26 hi0 hz0 hz1 hz2 rfl (by decide) v n xs hs hown ad m c news hx (by rw [hl]) hc h1 (by unfold maxLen; omega) (by omega) hbase fun v' w' h2 h3 _ => h v' w' h2 h3
theorem own_n1 (w : World) : (w.alloc (.cells #[] 57)).drew.ownsRow w.heap.size 57 2 (.slice (some ⟨w.heap.size, 0, none⟩) 0 0) 0 [] := World.ownsRow.drew (World.ownsRow_lit w #[] 0 (Nat.le_refl _) (by unfold maxLen; omega) rfl)
theorem own_n2 (w : World) (o : Obj) : ((w.alloc (.cells #[] 57)).alloc o).drew.ownsRow w.heap.size 57 2 (.slice (some ⟨w.heap.size, 0, none⟩) 0 0) 0 [] :=
  World.ownsRow.drew (World.ownsRow.alloc (World.ownsRow_lit w #[] 0 (Nat.le_refl _) (by unfold maxLen; omega) rfl) o)
theorem own_n3 (w : World) (o : Obj) : ((w.alloc o).alloc (.cells #[] 57)).drew.ownsRow w.heap.size 57 2 (.slice (some ⟨w.heap.size + 1, 0, none⟩) 0 0) 0 [] := by
  have h := World.ownsRow_lit (e := 57) (size := 2) (w.alloc o) #[] 0 (Nat.le_refl _) (by unfold maxLen; omega) rfl
  have hz : (w.alloc o).heap.size = w.heap.size + 1 := by simp
  rw [hz] at h
  exact World.ownsRow.drew (World.ownsRow.mono h (by omega))
theorem below_n1 (w : World) (o : Obj) : Below w.heap.size w (w.alloc o).drew := below_drewN ((Below.refl _ _).alloc (Nat.le_refl _) _) 1
theorem base_n1 (w : World) (o : Obj) : w.heap.size ≤ (w.alloc o).drew.heap.size := (below_n1 w o).size
theorem base_n2 (w : World) (o o' : Obj) : w.heap.size ≤ ((w.alloc o).alloc o').drew.heap.size := (below_e2 w o o').size
/-- what owns a list of nodes with one put in -/
theorem LvN.ins {s k : Nat} {w w3 : World} {v v3 v1 v2 : Value} {vs : List (Value × Value)} {L : List Nd} {x : Nd} (h : LvN s (fun _ => False) w v vs L) (hb : Below w.heap.size w w3) (hs : s ≤ w.heap.size) (hk : k ≤ L.length)
    (h1 : InL s (fun _ => False) w3 v1 x.1) (h2 : InL s (fun _ => False) w3 v2 x.2)
    (h3 : w3.ownsRow w.heap.size 57 2 v3 (0 + k + 1 + (L.length - k)) ([] ++ rowN2 (vs.take k) ++ [v1, v2] ++ rowN2 (vs.drop k))) :
    LvN s (fun _ => False) w3 v3 (vs.take k ++ (v1, v2) :: vs.drop k) (L.take k ++ x :: L.drop k) := by
  have hl := h.len
  have e1 : (L.take k ++ x :: L.drop k).length = 0 + k + 1 + (L.length - k) := by simp; omega
  have e2 : [] ++ rowN2 (vs.take k) ++ [v1, v2] ++ rowN2 (vs.drop k) = rowN2 (vs.take k ++ (v1, v2) :: vs.drop k) := by
    rw [rowN2_app]
    simp [rowN2]
  refine ⟨by rw [e1, ← e2]; exact World.ownsRow.mono h3 hs, by rw [e1]; simp; omega, fun j nd p hj hp => ?_⟩
  have hW := h.below hb
  by_cases c1 : j < k
  · rw [List.getElem?_append_left (by simp; omega), List.getElem?_take_of_lt c1] at hj hp
    exact hW.inner j nd p hj hp
  · rw [List.getElem?_append_right (by simp; omega)] at hj hp
    simp only [List.length_take] at hj hp
    rw [Nat.min_eq_left (by omega)] at hj hp
    by_cases c2 : j = k
    · subst c2
      simp at hj hp
      subst hj hp
      exact ⟨h1, h2⟩
    · obtain ⟨m, hm⟩ : ∃ m, j - k = m + 1 := ⟨j - k - 1, by omega⟩
      rw [hm, List.getElem?_cons_succ, List.getElem?_drop] at hj hp
      exact hW.inner _ nd p hj hp

end Go.Proofs.Ytabfdaofikccmaa
