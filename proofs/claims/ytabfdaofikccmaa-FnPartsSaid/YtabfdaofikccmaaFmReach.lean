/- (*spec.l3Book).reached: which nodes are reached from one. -/
import Derived.Test.YtabfdaofikccmaaFmBk
import Derived.IntWalk
namespace Go.Proofs.Ytabfdaofikccmaa
open Go.RowKit
theorem infoBool : (Try.prog.info? 4).map (fun i => (i.zero, i.size, i.bytes)) = some (some (.bool false), 1, 1) := by kernel_rfl
/-- a row of the call's own that holds these signs -/
def RowB (base g n : Nat) (o : List Bool) (wr : World) : Prop := wr.ownsRow base 4 1 (.slice (some ⟨g, 0, none⟩) n n) n (o.map Value.bool)
theorem RowB.at_ {base g n x : Nat} {v : Bool} {o : List Bool} {wr : World} (h : RowB base g n o wr) (hx : o[x]? = some v) : wr.cell? ⟨g, x, none⟩ = some (.bool v) := by
  have hl : (o.map Value.bool).length = n * 1 := h.1
  have hlt := get_lt hx
  rw [List.length_map] at hl
  have h2 := World.ownsRow.cellAt h x (by omega)
  rw [h2, List.getElem?_map, hx]
  rfl
theorem RowB.put {base g n x : Nat} {o : List Bool} {w wr : World} (h : RowB base g n o wr) (hge : w.heap.size ≤ g) (hb : Below w.heap.size w wr) :
    RowB base g n (o.set x true) (wr.setCell ⟨g, x, none⟩ (.bool true)) ∧ Below w.heap.size w (wr.setCell ⟨g, x, none⟩ (.bool true)) := by
  have h2 := World.ownsRow.stored h x (.bool true)
  rw [← List.map_set] at h2
  exact ⟨h2.1, hb.grown h2.2 hb.size (fun q hq => by simp at hq; omega)⟩
theorem made_one' (z : Value) (n : Nat) : (madeCells #[z] n).toList = List.replicate n z := by
  apply List.ext_getElem
  · simp [madeCells]
  · intro i h1 h2
    simp [madeCells, Nat.mod_one]
theorem rowB_made {base g n x : Nat} {w1 : World} (h : w1.ownsRow base 4 1 (.slice (some ⟨g, 0, none⟩) n n) n (madeCells (Value.bool false).cells (n * 1)).toList) (hx : x < n) :
    RowB base g n (List.replicate n false) w1 ∧ w1.cell? ⟨g, x, none⟩ = some (.bool false) ∧ w1.frozen? ⟨g, x, none⟩ = false := by
  have e : (madeCells (Value.bool false).cells (n * 1)).toList = (List.replicate n false).map Value.bool := by
    show (madeCells #[Value.bool false] (n * 1)).toList = _
    rw [Nat.mul_one, made_one', List.map_replicate]
  rw [e] at h
  have hR : RowB base g n (List.replicate n false) w1 := h
  exact ⟨hR, hR.at_ (by rw [List.getElem?_replicate]; simp [hx]), World.ownsRow.frozenAt h x⟩
theorem markAll_snoc (o : List Bool) (l : List Nat) (x : Nat) : markAll o (l ++ [x]) = (markAll o l).set x true := by simp [markAll, List.foldl_append]
theorem markAll_take (o : List Bool) (l : List Nat) (j x : Nat) (h : l[j]? = some x) : markAll o (l.take (j + 1)) = (markAll o (l.take j)).set x true := by
  rw [List.take_add_one, h]
  exact markAll_snoc _ _ _
theorem inner_cell {w : World} {F : Nat → Prop} {l : List Nat} {v : Value} (h : InnerZ w F v l) {j x : Nat} (hj : l[j]? = some x) : ∃ b o c, v = .slice (some ⟨b, o, none⟩) l.length c ∧ b < w.heap.size ∧ w.cell? ⟨b, o + j, none⟩ = some (.int .i64 (x : Int)) := by
  obtain ⟨b, o, c, rfl, hb, _, ao, c', e, _, hc⟩ := h
  obtain ⟨b', o', e2, _, _, h3⟩ := hc j (x : Int) (by unfold upL; rw [List.getElem?_map, hj]; rfl)
  injection e with e1 _ _
  rw [← e1] at e2
  injection e2 with e2
  injection e2 with e3 e4
  subst e3 e4
  exact ⟨b, o, c, rfl, hb, h3⟩
set_option maxRecDepth 100000 in
set_option maxHeartbeats 4000000 in
theorem reached_calls (base B : Nat) (ns : List Nd) (bs : List Nat) (vn vb : Value) (vs : List (Value × Value)) (X : Nat → Prop) (root : Nat) (w : World) (h : Bk base w B ns bs vn vb vs X) (hu : Under ns) (hr : root < ns.length) (hn : ns.length ≤ 100000) :
    Calls Try.prog 95 #[.pointer (some ⟨B, 0, none⟩), .int .i64 root] w fun e w' => ∃ g, e = .returned (.slice (some ⟨g, 0, none⟩) (root + 1) (root + 1)) ∧ RowB w.heap.size g (root + 1) (reachF ns root) w' ∧ Below w.heap.size w w' := by
  obtain ⟨i0, hi0, hz0, hz1, hz2⟩ := info_parts infoBool
  have HK := Lib.hid h
  have HU := Lib.hid hu
  clear h hu
  have hw0 : IntKind.i64.wrap ((root : Int) + 1) = (root : Int) + 1 := IntWalk.i64_in _ (by omega)
  have r0 : (0 : Int) ≤ root := by omega
  have r1 : (0 : Int) ≤ (root : Int) + 1 := by omega
  have r2 : ((root : Int) + 1).toNat = root + 1 := by omega
  have r3 : (root : Int) < (root : Int) + 1 := by omega
  go_enter Try.func95, Try.ntmps95
  go_wp2_with (at_make; refine wpList_make_full _ rfl _ _ 67 rfl w.heap.size 4 i0 (.bool false) 1 Try.underlying67 hi0 hz0 hz1 _ _ _ _ (root + 1) rfl rfl (by first | rfl | (simp; done)) (by first | rfl | (simp; done)) (by rw [hz2]; omega) (by unfold maxLen; omega) (Nat.le_refl _) ?_; intro w1 hown hg; obtain ⟨hrow, hc0, hf0⟩ := rowB_made (x := root) hown (by omega); have HB1 : Hid (Below w.heap.size w w1) := Lib.hid ((Below.refl _ _).grown hg (Nat.le_refl _) (fun k hk => by cases hk)); have HR1 := Lib.hid hrow; clear hown hg hrow)
  have P0 := HR1.out.put (x := root) (Nat.le_refl _) HB1.out
  have HP := Lib.hid P0.1
  have HPB := Lib.hid P0.2
  have HS : Hid (reachD ns (root + 1) ((List.replicate (root + 1) false).set root true) = reachF ns root) := Lib.hid rfl
  clear P0 hc0 hf0
  go_loopw [6] (fun i wr => ∃ (m : Nat) (o : List Bool), m ≤ root + 1 ∧ i = .int .i64 ((m : Int) - 1) ∧ o.length = root + 1 ∧ Hid (reachD ns m o = reachF ns root) ∧ Hid (RowB w.heap.size w.heap.size (root + 1) o wr) ∧ Hid (Below w.heap.size w wr)) (fun i _ => (intOf i + 1).toNat)
  case atStart => exact ⟨root + 1, _, Nat.le_refl _, congrArg (Value.int .i64) (by omega), by simp, HS, HP, HPB⟩
  case round =>
    obtain ⟨m, o, hm, rfl, hol, hrd, hrow, hb⟩ := hrel
    cases m with
    | zero =>
      have R : Hid (o = reachF ns root) := Lib.hid hrd.out
      have hneg : ¬ (0 : Int) ≤ ((0 : Nat) : Int) - 1 := by omega
      clear hrd
      go_wp2
      go_ret
      exact ⟨_, rfl, by rw [← R.out]; exact hrow.out, hb.out⟩
    | succ m =>
      have hcast : (((m + 1 : Nat) : Int) - 1) = (m : Int) := by omega
      rw [hcast]
      have m0 : (0 : Int) ≤ m := by omega
      have m1 : (m : Int) < (root : Int) + 1 := by omega
      have hw1 : IntKind.i64.wrap ((m : Int) - 1) = (m : Int) - 1 := IntWalk.i64_in _ (by omega)
      obtain ⟨om, hom⟩ := lt_get (l := o) (i := m) (by omega)
      have k0 := hrow.out.at_ hom
      obtain ⟨nd, hnd⟩ := lt_get (l := ns) (i := m) (by omega)
      have hgd : ns.getD m ([], []) = nd := by rw [List.getD_eq_getElem?_getD, hnd]; rfl
      have hgo : o.getD m false = om := by rw [List.getD_eq_getElem?_getD, hom]; rfl
      clear hcast
      cases om with
      | false =>
        have R : Hid (reachD ns m o = reachF ns root) := Lib.hid (by
          have := hrd.out
          unfold reachD at this
          rw [hgo] at this
          exact this)
        clear hrd hgd hgo hnd hom
        go_wp2
        go_roundw
        case rel => exact ⟨m, o, by omega, rfl, hol, R, hrow, hb⟩
        case measure => first | (simp [intOf]; done) | (simp [intOf]; omega)
      | true =>
        have R : Hid (reachD ns m (markAll (markAll o nd.1) nd.2) = reachF ns root) := Lib.hid (by
          have := hrd.out
          unfold reachD at this
          rw [hgo, hgd] at this
          exact this)
        have HN : Hid (∀ x, x ∈ nd.1 ∨ x ∈ nd.2 → x < m) := Lib.hid (fun x hx => HU.out m nd hnd x hx)
        have HND := Lib.hid hnd
        obtain ⟨_, _, ⟨p1, p2⟩, _, _, _, _, in1, in2⟩ := HK.out.node hnd
        have l1 : (nd.1.length : Int) ≤ 9223372036854775807 := by obtain ⟨_, _, _, _, _, _, _, _, _, h, _⟩ := in1; unfold upL at h; rw [List.length_map] at h; omega
        have l2 : (nd.2.length : Int) ≤ 9223372036854775807 := by obtain ⟨_, _, _, _, _, _, _, _, _, h, _⟩ := in2; unfold upL at h; rw [List.length_map] at h; omega
        clear in1 in2
        obtain ⟨W1, hW1⟩ : ∃ W, W = wr := ⟨_, rfl⟩
        subst hW1
        clear hrd hgd hgo hnd hom
        go_wp2
        go_loopw [7] (fun i wr => ∃ j : Nat, j ≤ nd.1.length ∧ i = .int .i64 j ∧ Hid (RowB w.heap.size w.heap.size (root + 1) (markAll o (nd.1.take j)) wr) ∧ Hid (Below w.heap.size w wr)) (fun i _ => nd.1.length - (intOf i).toNat)
        case atStart => exact ⟨0, Nat.zero_le _, rfl, Lib.hid (by simpa [markAll] using hrow.out), hb⟩
        case round =>
          obtain ⟨j, hj, rfl, hrow, hb⟩ := hrel
          have HKr := Lib.hid (HK.out.below hb.out)
          have c0 := HKr.out.c0
          obtain ⟨gn, cn, ⟨p1, p2⟩, hvn, _, q1, q2, in1, in2⟩ := HKr.out.node HND.out
          simp only at q1 q2 in1 in2
          rw [hvn] at c0
          by_cases hjl : j < nd.1.length
          · obtain ⟨x, hx⟩ := lt_get hjl
            obtain ⟨b1, o1, c1, hp, _, hcell⟩ := inner_cell in1 hx
            subst hp
            have hxm := HN.out x (Or.inl (List.mem_of_getElem? hx))
            have hlen : (markAll o (nd.1.take j)).length = root + 1 := by simp only [markAll_len, hol]
            obtain ⟨vx, hvx⟩ := lt_get (l := markAll o (nd.1.take j)) (i := x) (by omega)
            have kx := hrow.out.at_ hvx
            have hfz : wr.frozen? ⟨w.heap.size, x, none⟩ = false := World.ownsRow.frozenAt hrow.out x
            have PUT := hrow.out.put (x := x) (Nat.le_refl _) hb.out
            rw [← markAll_take _ _ _ _ hx] at PUT
            have R1 := Lib.hid PUT.1
            have R2 := Lib.hid PUT.2
            clear PUT hvx hlen hrow hb hvn hx in1 in2
            have j0 : (0 : Int) ≤ j := by omega
            have j1 : (j : Int) < nd.1.length := by omega
            have x0 : (0 : Int) ≤ x := by omega
            have x1 : (x : Int) < (root : Int) + 1 := by omega
            have m2 : (m : Int) < ns.length := by omega
            go_wp2
            go_roundw
            case rel => exact ⟨j + 1, by omega, by go_num, R1, R2⟩
            case measure => simp [intOf]; omega
          · have hje : nd.1.take j = nd.1 := List.take_of_length_le (by omega)
            rw [hje] at hrow
            obtain ⟨b1, o1, c1, hp, _⟩ := in1
            subst hp
            have m2 : (m : Int) < ns.length := by omega
            clear hje hvn
            obtain ⟨W3, hW3⟩ : ∃ W, W = wr := ⟨_, rfl⟩
            subst hW3
            go_wp2
            clear q1 q2 c0 HKr in2
            go_loopw [8] (fun i wr => ∃ j : Nat, j ≤ nd.2.length ∧ i = .int .i64 j ∧ Hid (RowB w.heap.size w.heap.size (root + 1) (markAll (markAll o nd.1) (nd.2.take j)) wr) ∧ Hid (Below w.heap.size w wr)) (fun i _ => nd.2.length - (intOf i).toNat)
            case atStart => exact ⟨0, Nat.zero_le _, rfl, Lib.hid (by simpa [markAll] using hrow.out), hb⟩
            case round =>
              obtain ⟨j, hj, rfl, hrow, hb⟩ := hrel
              have HKr := Lib.hid (HK.out.below hb.out)
              have c0 := HKr.out.c0
              obtain ⟨gn, cn, ⟨p1, p2⟩, hvn, _, q1, q2, in1, in2⟩ := HKr.out.node HND.out
              simp only at q1 q2 in1 in2
              rw [hvn] at c0
              by_cases hjl : j < nd.2.length
              · obtain ⟨x, hx⟩ := lt_get hjl
                obtain ⟨b1, o1, c1, hp, _, hcell⟩ := inner_cell in2 hx
                subst hp
                have hxm := HN.out x (Or.inr (List.mem_of_getElem? hx))
                have hlen : (markAll (markAll o nd.1) (nd.2.take j)).length = root + 1 := by simp only [markAll_len, hol]
                obtain ⟨vx, hvx⟩ := lt_get (l := markAll (markAll o nd.1) (nd.2.take j)) (i := x) (by omega)
                have kx := hrow.out.at_ hvx
                have hfz : wr.frozen? ⟨w.heap.size, x, none⟩ = false := World.ownsRow.frozenAt hrow.out x
                have PUT := hrow.out.put (x := x) (Nat.le_refl _) hb.out
                rw [← markAll_take _ _ _ _ hx] at PUT
                have R1 := Lib.hid PUT.1
                have R2 := Lib.hid PUT.2
                clear PUT hvx hlen hrow hb hvn hx in1 in2
                have j0 : (0 : Int) ≤ j := by omega
                have j1 : (j : Int) < nd.2.length := by omega
                have x0 : (0 : Int) ≤ x := by omega
                have x1 : (x : Int) < (root : Int) + 1 := by omega
                have m2 : (m : Int) < ns.length := by omega
                go_wp2
                go_roundw
                case rel => exact ⟨j + 1, by omega, by go_num, R1, R2⟩
                case measure => simp [intOf]; omega
              · have hje : nd.2.take j = nd.2 := List.take_of_length_le (by omega)
                rw [hje] at hrow
                obtain ⟨b1, o1, c1, hp, _⟩ := in2
                subst hp
                have m2 : (m : Int) < ns.length := by omega
                clear hje hvn
                go_wp2
                go_roundw
                case rel => exact ⟨m, _, by omega, rfl, by simp only [markAll_len, hol], R, hrow, hb⟩
                case measure => first | (simp [intOf]; done) | (simp [intOf]; omega)

end Go.Proofs.Ytabfdaofikccmaa
