/- (*spec.l3Book).put: a node put into a book, once. -/
import Derived.Test.YtabfdaofikccmaaFmBk
import Derived.Test.YtabfdaofikccmaaFmSame
import Derived.Test.YtabfdaofikccmaaFmAsc
namespace Go.Proofs.Ytabfdaofikccmaa
open Go.RowKit
theorem slice_inj {a a' : Option Addr} {n n' c c' : Nat} (h : Value.slice a n c = Value.slice a' n' c') : a = a' ∧ n = n' ∧ c = c' := by
  injection h with h1 h2 h3
  exact ⟨h1, h2, h3⟩
theorem ints_nil (w : World) (lo hi b o : Nat) : IntsZ w lo hi (.slice (some ⟨b, o, none⟩) (sortd ([] : List Nat)).length 0) (upL (sortd [])) :=
  ⟨_, _, rfl, by simp [sortd, upL], fun j x hx => by simp [sortd, upL] at hx⟩
theorem seat_first {nd : Nd} : ∀ {ns : List Nd} {j : Nat}, ns[j]? = some nd → (∀ m, m < j → ns[m]? ≠ some nd) → seat ns nd = j
  | [], j, h, _ => by simp at h
  | x :: ns, 0, h, _ => by
    simp at h
    subst h
    unfold seat
    rw [List.idxOf_cons]
    simp
  | x :: ns, j + 1, h, hno => by
    have h0 := hno 0 (by omega)
    have hx : ¬ x = nd := fun e => h0 (by rw [e]; rfl)
    have ih := seat_first (ns := ns) (j := j) (by simpa using h) (fun m hm => by have := hno (m + 1) (by omega); simpa using this)
    unfold seat at ih ⊢
    rw [List.idxOf_cons, show (x == nd) = false from by simpa using hx]
    simp [ih]
theorem no_step {ns : List Nd} {nd : Nd} {j : Nat} (hno : ∀ m, m < j → ns[m]? ≠ some nd) (h : ns[j]? ≠ some nd) : ∀ m, m < j + 1 → ns[m]? ≠ some nd := fun m hm => by
  by_cases e : m = j
  · rw [e]; exact h
  · exact hno m (by omega)
set_option maxRecDepth 100000 in
set_option maxHeartbeats 8000000 in
theorem put_calls (base B : Nat) (ns : List Nd) (vn vb : Value) (vs : List (Value × Value)) (X : Nat → Prop) (vl vr : Value) (L R : List Nat) (w : World) (lo hi lo' hi' : Nat) (hh : hi ≤ w.heap.size) (hh' : hi' ≤ w.heap.size)
    (h : Bk base w B ns (bornsOf ns) vn vb vs X) (hX : ∀ g, X g → g < w.heap.size) (hu : Under ns) (hvl : IntsZ w lo hi vl (upL L)) (hvr : IntsZ w lo' hi' vr (upL R)) (hxL : ∀ x ∈ L, x < ns.length) (hxR : ∀ x ∈ R, x < ns.length) (hn : ns.length ≤ 100000) (hlL : L.length ≤ 100000) (hlR : R.length ≤ 100000) :
    Calls Try.prog 88 #[.pointer (some ⟨B, 0, none⟩), vl, vr] w fun e w' => e = .returned (.int .i64 (seat ns (sortd L, sortd R) : Nat)) ∧ ∃ vn' vb' vs', Bk base w' B (bookPut ns (sortd L, sortd R)) (bornsOf (bookPut ns (sortd L, sortd R))) vn' vb' vs' X ∧ Only w w' (Foot B vn vb) ∧ (∀ g, g < w.heap.size → Foot B vn' vb' g → Foot B vn vb g) := by
  have HK := Lib.hid h
  have HVL := Lib.hid hvl
  have HVR := Lib.hid hvr
  have HXL := Lib.hid hxL
  have HXR := Lib.hid hxR
  have HBD : Hid (∀ x, x < ns.length → (bornsOf ns).getD x 0 < ns.length) := Lib.hid (fun x hx => by have := bOf_le ns hu x hx; unfold bOf at this; omega)
  have HU := Lib.hid hu
  have HXX := Lib.hid hX
  clear hX
  obtain ⟨aL, cvL, rfl, _, _⟩ := hvl
  obtain ⟨aR, cvR, rfl, _, _⟩ := hvr
  have hLL : (upL L).length = L.length := by unfold upL; simp
  have hLR : (upL R).length = R.length := by unfold upL; simp
  rw [hLL] at HVL ⊢
  rw [hLR] at HVR ⊢
  clear hLL hLR hxL hxR hu h
  go_enter Try.func88, Try.ntmps88
  go_wp2
  go_loopw [7, 9, 10] (fun q m i wr => ∃ (k b off c : Nat), k ≤ L.length ∧ i = .int .i64 k ∧ q = .slice (some ⟨b, off, none⟩) (sortd (L.take k)).length c ∧ m = .int .i64 ((accB (bornsOf ns) (L.take k)) : Nat) ∧ Hid (IntsZ wr w.heap.size wr.heap.size (.slice (some ⟨b, off, none⟩) (sortd (L.take k)).length c) (upL (sortd (L.take k)))) ∧ w.heap.size ≤ b ∧ b < wr.heap.size ∧ w.heap.size + 1 < wr.heap.size ∧ Hid (Below w.heap.size w wr)) (fun _ _ i _ => L.length - (intOf i).toNat)
  case atStart => exact ⟨0, w.heap.size, 0, 0, Nat.zero_le _, rfl, rfl, rfl, Lib.hid ((ints_empty w).below (B := w.heap.size + 1) ((Below.refl _ _).alloc (by simp) _) (Nat.le_refl _) |>.wide (Nat.le_refl _) (by simp)), Nat.le_refl _, by simp; omega, by simp, Lib.hid (((Below.refl _ _).alloc (Nat.le_refl _) _).alloc (by simp) _)⟩
  case round =>
    obtain ⟨k, b, off, cq, hk, rfl, rfl, rfl, hq, hb1, hb2, hb3, hb⟩ := hrel
    by_cases hlt : k < L.length
    · obtain ⟨x, hx⟩ := lt_get hlt
      have hxn := HXL.out x (List.mem_of_getElem? hx)
      obtain ⟨ao', c', e', _, hn⟩ := HVL.out.below hb.out hh
      obtain ⟨bb, oo, hao, _, hbbhi, hc⟩ := hn k (x : Int) (by unfold upL; rw [List.getElem?_map, hx]; rfl)
      have hE := Lib.hid e'
      clear e' hn
      have hsl := sortd_len (L.take k)
      have C := Lib.hid (l1Put_calls b off cq (sortd (L.take k)) x wr w.heap.size wr.heap.size (Nat.le_refl _) hq.out hb1 hb2 (by rw [List.length_take] at hsl; omega) (by omega))
      have HS : Hid (putN (sortd (L.take k)) x = sortd (L.take (k + 1))) := Lib.hid (by rw [List.take_add_one, hx, ← foldput_snoc]; rfl)
      have HA : Hid (max (accB (bornsOf ns) (L.take k)) ((bornsOf ns).getD x 0 + 1) = (accB (bornsOf ns) (L.take (k + 1)))) := Lib.hid (by
        rw [List.take_add_one, hx]
        exact (accB_snoc _ _ _).symm)
      have HAL : (accB (bornsOf ns) (L.take k)) ≤ ns.length := accB_le _ _ _ fun y hy => HBD.out y (by
        exact HXL.out y (List.mem_of_mem_take hy))
      have HBX := HBD.out x hxn
      obtain ⟨bx, hbx⟩ := lt_get (l := bornsOf ns) (i := x) (by rw [bornsOf_len]; exact hxn)
      have hgx : (bornsOf ns).getD x 0 = bx := by rw [List.getD_eq_getElem?_getD, hbx]; rfl
      obtain ⟨gb, cb, hvb, hcx⟩ := HK.out.birth hbx
      have hbz := hb.out.size
      have hBl := (HK.out.lt B (Or.inl rfl)).2
      have hgl := block_of_cell hcx
      have kB : wr.cell? ⟨B, 1, none⟩ = some vb := (bcell hb.out B 1 hBl).trans HK.out.c1
      have kx : wr.cell? ⟨gb, x, none⟩ = some (.int .i64 (bx : Int)) := (bcell hb.out gb x hgl).trans hcx
      have hbnl : (bornsOf ns).length = ns.length := bornsOf_len ns
      rw [hbnl] at hvb
      rw [hgx] at HA HBX
      have HVB := Lib.hid hvb
      have HAO := Lib.hid hao
      clear hq hx hsl hbx hgx hcx hbnl
      generalize sortd (L.take k) = q at C HS
      generalize (accB (bornsOf ns) (L.take k)) = acc at HA HAL
      have b0 : (0 : Int) ≤ k := by omega
      have b1 : (k : Int) < L.length := by omega
      have x0 : (0 : Int) ≤ x := by omega
      have x1 : (x : Int) < ns.length := by omega
      obtain ⟨e1, e2, e3⟩ := slice_inj hE.out
      rw [HAO.out] at e1
      subst e1
      clear e2 e3 hE hao HAO
      go_wp2_with fail
      refine C.out.mono ?_
      rintro e w4 ⟨b', off', c', rfl, hi4, h1, h2, hb4⟩
      have m1 : w4.cell? ⟨B, 1, none⟩ = some vb := (bcell hb4 B 1 (by omega)).trans kB
      have m2 : w4.cell? ⟨gb, x, none⟩ = some (.int .i64 (bx : Int)) := (bcell hb4 gb x (by omega)).trans kx
      have m3 : w4.cell? ⟨bb, oo + k, none⟩ = some (.int .i64 (x : Int)) := (bcell hb4 bb _ (by omega)).trans hc
      rw [HS.out] at hi4 ⊢
      rw [HVB.out] at m1
      have HI := Lib.hid hi4
      have hbz4 := hb4.size
      have HB4 : Hid (Below w.heap.size w w4) := Lib.hid (hb.out.trans (hb4.mono hbz))
      
      have CM := Lib.hid fun n => most_calls acc (bx + 1) (w4.drewN n)
      have hc2 : ((bx + 1 : Nat) : Int) = (bx : Int) + 1 := by omega
      rw [HA.out] at CM
      simp only [hc2] at CM
      clear hc2
      have hwr : IntKind.i64.wrap ((bx : Int) + 1) = (bx : Int) + 1 := IntWalk.i64_in _ (by omega)
      clear hi4 hb4 C HS kB kx hc HVB HA
      go_wp2_with fail
      go_quiet ((go_at_call 107; exact Calls.quiet_of_same (CM.out _)))
      go_wp2
      go_roundw
      case rel => exact ⟨k + 1, b', off', c', by omega, by go_num, rfl, rfl, HI, h1, h2, Nat.lt_of_lt_of_le hb3 hbz4, Lib.hid (below_drewN HB4.out _)⟩
      case measure => simp [intOf]; omega
    · have hke : L.take k = L := List.take_of_length_le (by omega)
      rw [hke] at hq ⊢
      have HIL := hq
      have HB1 := hb
      have hb7 : b < wr.heap.size := hb2
      obtain ⟨W1, hW1⟩ : ∃ W, W = wr := ⟨_, rfl⟩
      subst hW1
      have hb8 : w.heap.size + 1 < W1.heap.size := hb3
      obtain ⟨bL, hbL⟩ : ∃ x, x = b := ⟨_, rfl⟩
      obtain ⟨oL, hoL⟩ : ∃ x, x = off := ⟨_, rfl⟩
      obtain ⟨cL, hcL⟩ : ∃ x, x = cq := ⟨_, rfl⟩
      subst hbL hoL hcL
      clear hq hke hb
      go_wp2
      go_loopw [8, 9, 11] (fun q m i wr => ∃ (k b off c : Nat), k ≤ R.length ∧ i = .int .i64 k ∧ q = .slice (some ⟨b, off, none⟩) (sortd (R.take k)).length c ∧ m = .int .i64 ((accB (bornsOf ns) (L ++ R.take k)) : Nat) ∧ Hid (IntsZ wr w.heap.size wr.heap.size (.slice (some ⟨b, off, none⟩) (sortd (R.take k)).length c) (upL (sortd (R.take k)))) ∧ w.heap.size ≤ b ∧ b < wr.heap.size ∧ w.heap.size + 1 < wr.heap.size ∧ Hid (Below w.heap.size w wr) ∧ Hid (IntsZ wr w.heap.size wr.heap.size (.slice (some ⟨bL, oL, none⟩) (sortd L).length cL) (upL (sortd L))) ∧ bL < wr.heap.size) (fun _ _ i _ => R.length - (intOf i).toNat)
      case atStart => exact ⟨0, w.heap.size + 1, 0, 0, Nat.zero_le _, rfl, rfl, congrArg (fun (x : Nat) => Value.int .i64 (x : Int)) (by simp), Lib.hid (ints_nil _ _ _ _ _), by omega, hb8, hb8, HB1, HIL, hb7⟩
      case round =>
        obtain ⟨k, b, off, cq, hk, rfl, rfl, rfl, hq, hb1, hb2, hb3, hb, hil, hbl⟩ := hrel
        by_cases hlt : k < R.length
        · obtain ⟨x, hx⟩ := lt_get hlt
          have hxn := HXR.out x (List.mem_of_getElem? hx)
          obtain ⟨ao', c', e', _, hn⟩ := HVR.out.below hb.out hh'
          obtain ⟨bb, oo, hao, _, hbbhi, hc⟩ := hn k (x : Int) (by unfold upL; rw [List.getElem?_map, hx]; rfl)
          have hE := Lib.hid e'
          clear e' hn
          have hsl := sortd_len (R.take k)
          have C := Lib.hid (l1Put_calls b off cq (sortd (R.take k)) x wr w.heap.size wr.heap.size (Nat.le_refl _) hq.out hb1 hb2 (by rw [List.length_take] at hsl; omega) (by omega))
          have HS : Hid (putN (sortd (R.take k)) x = sortd (R.take (k + 1))) := Lib.hid (by rw [List.take_add_one, hx, ← foldput_snoc]; rfl)
          have HA : Hid (max (accB (bornsOf ns) (L ++ R.take k)) ((bornsOf ns).getD x 0 + 1) = (accB (bornsOf ns) (L ++ R.take (k + 1)))) := Lib.hid (by
            rw [List.take_add_one, hx, ← List.append_assoc]
            exact (accB_snoc _ _ _).symm)
          have HAL : (accB (bornsOf ns) (L ++ R.take k)) ≤ ns.length := accB_le _ _ _ fun y hy => HBD.out y (by
            rcases List.mem_append.1 hy with h | h; exact HXL.out y h; exact HXR.out y (List.mem_of_mem_take h))
          have HBX := HBD.out x hxn
          obtain ⟨bx, hbx⟩ := lt_get (l := bornsOf ns) (i := x) (by rw [bornsOf_len]; exact hxn)
          have hgx : (bornsOf ns).getD x 0 = bx := by rw [List.getD_eq_getElem?_getD, hbx]; rfl
          obtain ⟨gb, cb, hvb, hcx⟩ := HK.out.birth hbx
          have hbz := hb.out.size
          have hBl := (HK.out.lt B (Or.inl rfl)).2
          have hgl := block_of_cell hcx
          have kB : wr.cell? ⟨B, 1, none⟩ = some vb := (bcell hb.out B 1 hBl).trans HK.out.c1
          have kx : wr.cell? ⟨gb, x, none⟩ = some (.int .i64 (bx : Int)) := (bcell hb.out gb x hgl).trans hcx
          have hbnl : (bornsOf ns).length = ns.length := bornsOf_len ns
          rw [hbnl] at hvb
          rw [hgx] at HA HBX
          have HVB := Lib.hid hvb
          have HAO := Lib.hid hao
          clear hq hx hsl hbx hgx hcx hbnl
          generalize sortd (R.take k) = q at C HS
          generalize (accB (bornsOf ns) (L ++ R.take k)) = acc at HA HAL
          have b0 : (0 : Int) ≤ k := by omega
          have b1 : (k : Int) < R.length := by omega
          have x0 : (0 : Int) ≤ x := by omega
          have x1 : (x : Int) < ns.length := by omega
          obtain ⟨e1, e2, e3⟩ := slice_inj hE.out
          rw [HAO.out] at e1
          subst e1
          clear e2 e3 hE hao HAO
          go_wp2_with fail
          refine C.out.mono ?_
          rintro e w4 ⟨b', off', c', rfl, hi4, h1, h2, hb4⟩
          have m1 : w4.cell? ⟨B, 1, none⟩ = some vb := (bcell hb4 B 1 (by omega)).trans kB
          have m2 : w4.cell? ⟨gb, x, none⟩ = some (.int .i64 (bx : Int)) := (bcell hb4 gb x (by omega)).trans kx
          have m3 : w4.cell? ⟨bb, oo + k, none⟩ = some (.int .i64 (x : Int)) := (bcell hb4 bb _ (by omega)).trans hc
          rw [HS.out] at hi4 ⊢
          rw [HVB.out] at m1
          have HI := Lib.hid hi4
          have hbz4 := hb4.size
          have HB4 : Hid (Below w.heap.size w w4) := Lib.hid (hb.out.trans (hb4.mono hbz))
          have HIL' := Lib.hid ((hil.out.below hb4 (Nat.le_refl _)).wide (Nat.le_refl _) hb4.size)
          have CM := Lib.hid fun n => most_calls acc (bx + 1) (w4.drewN n)
          have hc2 : ((bx + 1 : Nat) : Int) = (bx : Int) + 1 := by omega
          rw [HA.out] at CM
          simp only [hc2] at CM
          clear hc2
          have hwr : IntKind.i64.wrap ((bx : Int) + 1) = (bx : Int) + 1 := IntWalk.i64_in _ (by omega)
          clear hi4 hb4 C HS kB kx hc HVB HA hil
          go_wp2_with fail
          go_quiet ((go_at_call 107; exact Calls.quiet_of_same (CM.out _)))
          go_wp2
          go_roundw
          case rel => exact ⟨k + 1, b', off', c', by omega, by go_num, rfl, rfl, HI, h1, h2, Nat.lt_of_lt_of_le hb3 hbz4, Lib.hid (below_drewN HB4.out _), HIL', Nat.lt_of_lt_of_le hbl hbz4⟩
          case measure => simp [intOf]; omega
        · have hke : R.take k = R := List.take_of_length_le (by omega)
          rw [hke] at hq ⊢
          have HIR := hq
          have HIL2 := hil
          have HB2 := hb
          obtain ⟨W2, hW2⟩ : ∃ W, W = wr := ⟨_, rfl⟩
          subst hW2
          have HACC : Hid (accB (bornsOf ns) (L ++ R) = lastOf (fun x => (bornsOf ns).getD x 0) (sortd L, sortd R)) := Lib.hid (Nat.le_antisymm
            (lastOf_le (fun x => (bornsOf ns).getD x 0) (L, R) _ fun x hx => lastOf_lt (fun x => (bornsOf ns).getD x 0) (sortd L, sortd R) x (by simpa [mem_sortd] using hx))
            (lastOf_le (fun x => (bornsOf ns).getD x 0) (sortd L, sortd R) _ fun x hx => lastOf_lt (fun x => (bornsOf ns).getD x 0) (L, R) x (by simpa [mem_sortd] using hx)))
          have hAL : accB (bornsOf ns) (L ++ R) ≤ ns.length := accB_le _ _ _ fun y hy => HBD.out y (by
            rcases List.mem_append.1 hy with h | h
            · exact HXL.out y h
            · exact HXR.out y h)
          generalize accB (bornsOf ns) (L ++ R) = acc at HACC hAL
          have HW2 := Lib.hid fun W (hW : Below W2.heap.size W2 W) => HB2.out.trans (hW.mono HB2.out.size)
          have HLW := Lib.hid fun W (hW : Below W2.heap.size W2 W) => HIL2.out.below hW (Nat.le_refl _)
          have HRW := Lib.hid fun W (hW : Below W2.heap.size W2 W) => HIR.out.below hW (Nat.le_refl _)
          have hLlen : (sortd L).length ≤ 100000 := Nat.le_trans (sortd_len L) hlL
          have hRlen : (sortd R).length ≤ 100000 := Nat.le_trans (sortd_len R) hlR
          clear hq hke hb hil
          go_wp2
          go_loopw [12] (fun i wr => ∃ j : Nat, j ≤ ns.length ∧ i = .int .i64 j ∧ Hid (∀ m, m < j → ns[m]? ≠ some (sortd L, sortd R)) ∧ Hid (Below W2.heap.size W2 wr)) (fun i _ => ns.length - (intOf i).toNat)
          case atStart => exact ⟨0, Nat.zero_le _, rfl, Lib.hid (fun m hm => by omega), Lib.hid (Below.refl _ _)⟩
          case round =>
            obtain ⟨j, hj, rfl, hno, hbr⟩ := hrel
            have HBr := Lib.hid (HW2.out wr hbr.out)
            have HKr := Lib.hid (HK.out.below HBr.out)
            have c0 := HKr.out.c0
            have c1 := HKr.out.c1
            by_cases hjl : j < ns.length
            · obtain ⟨nj, hnj⟩ := lt_get hjl
              obtain ⟨gn, cn, ⟨p1, p2⟩, hvn, hps, q1, q2, in1, in2⟩ := HKr.out.node hnj
              obtain ⟨bj, hbj⟩ := lt_get (l := bornsOf ns) (i := j) (by rw [bornsOf_len]; exact hjl)
              obtain ⟨gb, cb, hvb, q3⟩ := HKr.out.birth hbj
              rw [bornsOf_len] at hvb
              have hbo : bOf ns j = bj := by unfold bOf; rw [List.getD_eq_getElem?_getD, hbj]; rfl
              have HBO : Hid (bj = lastOf (fun x => (bornsOf ns).getD x 0) nj) := Lib.hid (by rw [← hbo]; exact births_bOf ns HU.out j nj hnj)
              simp only at q1 q2 in1 in2
              have HI1 := Lib.hid in1.ints
              have HI2 := Lib.hid in2.ints
              obtain ⟨i1b, i1o, i1c, hp1, _⟩ := in1
              obtain ⟨i2b, i2o, i2c, hp2, _⟩ := in2
              subst hp1 hp2
              rw [hvn] at c0
              rw [hvb] at c1
              have HNJ := Lib.hid hnj
              clear hvn hvb hps hbo hbj hnj
              have j0 : (0 : Int) ≤ j := by omega
              have j1 : (j : Int) < ns.length := by omega
              by_cases hbe : bj = acc
              · have hbe2 : ((bj : Int) == acc) = true := by simp [hbe]
                have CA := Lib.hid (l1Same_calls _ _ (upL nj.1) (upL (sortd L)) wr _ _ _ _ HI1.out (HLW.out wr hbr.out))
                have CB := Lib.hid fun n => l1Same_calls _ _ (upL nj.2) (upL (sortd R)) (wr.drewN n) _ _ _ _ (HI2.out.below (below_drewN (Below.refl _ _) n) (Nat.le_refl _)) (HRW.out _ (below_drewN hbr.out n))
                have hbe3 : (bj : Int) = acc := by omega
                clear hbe HBO
                by_cases e1 : nj.1 = sortd L
                · have E1 : decide (upL nj.1 = upL (sortd L)) = true := by simp [e1]
                  rw [E1] at CA
                  by_cases e2 : nj.2 = sortd R
                  · have E2 : decide (upL nj.2 = upL (sortd R)) = true := by simp [e2]
                    rw [E2] at CB
                    have hnd : ns[j]? = some (sortd L, sortd R) := by rw [HNJ.out, ← e1, ← e2]
                    have HSE : Hid (seat ns (sortd L, sortd R) = j) := Lib.hid (seat_first hnd hno.out)
                    have HBP : Hid (bookPut ns (sortd L, sortd R) = ns) := Lib.hid (by unfold bookPut; rw [if_pos (List.mem_of_getElem? hnd)])
                    clear e1 e2 E1 E2 hnd
                    go_wp2_with fail
                    refine CA.out.mono ?_
                    rintro e w4 ⟨rfl, n4, rfl⟩
                    go_wp2_with fail
                    refine (CB.out n4).mono ?_
                    rintro e w5 ⟨rfl, n5, rfl⟩
                    go_wp2_with fail
                    go_ret
                    refine ⟨ret_int (by rw [HSE.out]), vn, vb, vs, ?_, ?_, fun g _ h => h⟩
                    · rw [HBP.out]
                      exact HK.out.below (HW2.out _ (below_drewN hbr.out _))
                    · exact Only.of_below (HW2.out _ (below_drewN hbr.out _))
                  · have E2 : decide (upL nj.2 = upL (sortd R)) = false := by simpa [upL_inj] using e2
                    rw [E2] at CB
                    have R1 : Hid (∀ m, m < j + 1 → ns[m]? ≠ some (sortd L, sortd R)) := Lib.hid (no_step hno.out (fun h => e2 (by rw [HNJ.out] at h; injection h with h; rw [h])))
                    clear e1 e2 E1 E2
                    go_wp2_with fail
                    refine CA.out.mono ?_
                    rintro e w4 ⟨rfl, n4, rfl⟩
                    go_wp2_with fail
                    refine (CB.out n4).mono ?_
                    rintro e w5 ⟨rfl, n5, rfl⟩
                    go_wp2_with fail
                    go_roundw
                    case rel => exact ⟨j + 1, by omega, by go_num, R1, Lib.hid (below_drewN hbr.out _)⟩
                    case measure => simp [intOf]; omega
                · have E1 : decide (upL nj.1 = upL (sortd L)) = false := by simpa [upL_inj] using e1
                  rw [E1] at CA
                  have R1 : Hid (∀ m, m < j + 1 → ns[m]? ≠ some (sortd L, sortd R)) := Lib.hid (no_step hno.out (fun h => e1 (by rw [HNJ.out] at h; injection h with h; rw [h])))
                  clear e1 E1
                  go_wp2_with fail
                  refine CA.out.mono ?_
                  rintro e w4 ⟨rfl, n4, rfl⟩
                  go_wp2_with fail
                  go_roundw
                  case rel => exact ⟨j + 1, by omega, by go_num, R1, Lib.hid (below_drewN hbr.out _)⟩
                  case measure => simp [intOf]; omega
              · have hbe2 : ((bj : Int) == acc) = false := by rw [beq_eq_false_iff_ne]; omega
                have R1 : Hid (∀ m, m < j + 1 → ns[m]? ≠ some (sortd L, sortd R)) := Lib.hid (no_step hno.out (fun h => hbe (by rw [HBO.out, HACC.out]; rw [HNJ.out] at h; injection h with h; rw [h])))
                have hbe3 : ¬ (bj : Int) = acc := by omega
                clear hbe
                go_wp2_with fail
                go_roundw
                case rel => exact ⟨j + 1, by omega, by go_num, R1, hbr⟩
                case measure => simp [intOf]; omega
            · have hje : j = ns.length := by omega
              have HNM : Hid ((sortd L, sortd R) ∉ ns) := Lib.hid (fun hm => by
                obtain ⟨m, hm2⟩ := List.getElem?_of_mem hm
                exact hno.out m (by have := get_lt hm2; omega) hm2)
              have HSE : Hid (seat ns (sortd L, sortd R) = ns.length) := Lib.hid (by unfold seat; exact List.idxOf_eq_length HNM.out)
              have HBP : Hid (bookPut ns (sortd L, sortd R) = ns ++ [(sortd L, sortd R)]) := Lib.hid (by unfold bookPut; rw [if_neg HNM.out])
              have HBB : Hid (bornsOf (ns ++ [(sortd L, sortd R)]) = bornsOf ns ++ [acc]) := Lib.hid (by rw [bornsOf_snoc, HACC.out])
              obtain ⟨iN, hiN, hzN0, hzN1, hzN2⟩ := info_parts infoNodeA
              obtain ⟨iI, hiI, hzI0, hzI1, hzI2⟩ := info_parts infoIntA
              have hlow := (HK.out.lt B (Or.inl rfl)).1
              have hBl := (HKr.out.lt B (Or.inl rfl)).2
              have hz2 := HBr.out.size
              have hz1 := HB2.out.size
              have hlb := hbr.out.size
              have hwl := (HK.out.lt B (Or.inl rfl)).2
              obtain ⟨an, cn, hvn⟩ : ∃ a c, vn = .slice a ns.length c := by
                rcases HKr.out.nodes.2 with ⟨h1, h2⟩ | ⟨g, cap, _, h1, _⟩
                · exact ⟨none, 0, by rw [h1, h2]⟩
                · exact ⟨_, _, h1⟩
              have HN := HKr.out.nodes
              rw [hvn] at HN c0
              have HVN := Lib.hid hvn
              have HN := Lib.hid HN
              have hj1 : ¬ (j : Int) < ns.length := by omega
              clear hvn
              -- what is put in lies apart
              have HF0 := Lib.hid fun g hg => (HK.out.lt g hg).2
              have HP : Hid (InnerZ wr (fun g => Foot B vn vb g ∨ X g) (.slice (some ⟨bL, oL, none⟩) (sortd L).length cL) (sortd L) ∧ InnerZ wr (fun g => Foot B vn vb g ∨ X g) (.slice (some ⟨b, off, none⟩) (sortd R).length cq) (sortd R)) := Lib.hid (by
                refine ⟨⟨bL, oL, cL, rfl, by omega, fun hF => by (have : bL < w.heap.size := hF.elim (HF0.out bL) (HXX.out bL)); omega, (HLW.out wr hbr.out).wide (Nat.zero_le _) hlb⟩, ⟨b, off, cq, rfl, by omega, fun hF => by (have : b < w.heap.size := hF.elim (HF0.out b) (HXX.out b)); omega, (HRW.out wr hbr.out).wide (Nat.zero_le _) hlb⟩⟩)
              clear hno hje
              go_wp2_with (at_builtin; refine wpList_append_own_at _ rfl _ _ 26 rfl base 57 iN (.agg #[.slice none 0 0, .slice none 0 0]) 2 48 Try.underlying26 hiN hzN0 hzN1 hzN2 rfl (by decide) _ _ _ rfl (HN.out.alloc _) ⟨wr.heap.size, 0, none⟩ 1 1 [.slice (some ⟨bL, oL, none⟩) (sortd L).length cL, .slice (some ⟨b, off, none⟩) (sortd R).length cq] rfl rfl ?d1 ?d2 ?d3 ?d4 ?d5 ?_)
              case d2 => exact ⟨rfl, rfl⟩
              case d3 => unfold maxLen; omega
              case d4 => omega
              case d5 => first | omega | (simp; omega)
              intro v2 w2 hown2 hgrow2 hnil hat2
              obtain ⟨g2, c2, rfl, _, _⟩ := hown2.form (by omega)
              rw [← HVN.out] at hgrow2 hat2
              have HKa := Lib.hid (HKr.out.below ((Below.refl wr.heap.size wr).alloc (Nat.le_refl _) (.cells #[.slice (some ⟨bL, oL, none⟩) (sortd L).length cL, .slice (some ⟨b, off, none⟩) (sortd R).length cq] 57)))
              have HPa := Lib.hid (And.intro (HP.out.1.only (Only.of_below (F := fun g => Foot B vn vb g ∨ X g) ((Below.refl wr.heap.size wr).alloc (Nat.le_refl _) (.cells #[.slice (some ⟨bL, oL, none⟩) (sortd L).length cL, .slice (some ⟨b, off, none⟩) (sortd R).length cq] 57))) (fun _ _ h => h)) (HP.out.2.only (Only.of_below (F := fun g => Foot B vn vb g ∨ X g) ((Below.refl wr.heap.size wr).alloc (Nat.le_refl _) (.cells #[.slice (some ⟨bL, oL, none⟩) (sortd L).length cL, .slice (some ⟨b, off, none⟩) (sortd R).length cq] 57))) (fun _ _ h => h)))
              have P1 := Bk.pushN (p := (.slice (some ⟨bL, oL, none⟩) (sortd L).length cL, .slice (some ⟨b, off, none⟩) (sortd R).length cq)) (nd := (sortd L, sortd R)) HKa.out hgrow2 hown2 (by simpa using hat2) HPa.out
              have d0 : w2.cell? ⟨B, 0, none⟩ = some vn := (hgrow2.cell_far ⟨B, 0, none⟩ (by simp; omega) (fun e => HK.out.sn e.symm)).trans HKa.out.c0
              have dz : w2.frozen? ⟨B, 0, none⟩ = false := (hgrow2.frozen_far ⟨B, 0, none⟩ (by simp; omega) (fun e => HK.out.sn e.symm)).trans HKa.out.z0
              have HK3 := Lib.hid P1.1
              have HO3 := Lib.hid P1.2.1
              have HF3 := Lib.hid P1.2.2
              have HG2 := hgrow2.size
              have d1 : w2.cell? ⟨B, 1, none⟩ = some vb := (hgrow2.cell_far ⟨B, 1, none⟩ (by simp; omega) (fun e => HK.out.sn e.symm)).trans HKa.out.c1
              have d1z : w2.frozen? ⟨B, 1, none⟩ = false := (hgrow2.frozen_far ⟨B, 1, none⟩ (by simp; omega) (fun e => HK.out.sn e.symm)).trans HKa.out.z1
              have hBl2 : B < w2.heap.size := block_of_cell d0
              have hblen := bornsOf_len ns
              have HBN := Lib.hid HK3.out.born
              rw [hblen] at HBN
              have hnew := heap_alloc_new (w2.setCell ⟨B, 0, none⟩ (.slice (some ⟨g2, 0, none⟩) (ns.length + 1) c2)) (.cells #[.int .i64 (acc : Int)] 3)
              rw [show (w2.setCell ⟨B, 0, none⟩ (.slice (some ⟨g2, 0, none⟩) (ns.length + 1) c2)).heap.size = w2.heap.size from by simp] at hnew
              have HNEW := Lib.hid hnew
              clear hown2 hgrow2 hnil hat2 HPa HP hblen hnew
              go_wp2_with (at_builtin; refine wpList_append_own_at _ rfl _ _ 34 rfl base 3 iI (.int .i64 0) 1 8 Try.underlying34 hiI hzI0 hzI1 hzI2 rfl (by decide) _ _ _ rfl (HBN.out.alloc _) ⟨w2.heap.size, 0, none⟩ 1 1 [.int .i64 (acc : Int)] rfl rfl ?f1 ?f2 ?f3 ?f4 ?f5 ?_)
              case f1 => exact World.news_of_block HNEW.out
              case f2 => intro u hu; simp at hu; subst hu; rfl
              case f3 => unfold maxLen; omega
              case f4 => omega
              case f5 => first | omega | (simp; omega)
              intro v3 w3 hown3 hgrow3 hnil3 hat3
              obtain ⟨g3, c3, rfl, _, _⟩ := hown3.form (by omega)
              have HZ3 : Hid ((w2.setCell ⟨B, 0, none⟩ (.slice (some ⟨g2, 0, none⟩) (ns.length + 1) c2)).heap.size = w2.heap.size) := Lib.hid (by simp)
              have HKb := Lib.hid (HK3.out.below ((Below.refl (w2.setCell ⟨B, 0, none⟩ (.slice (some ⟨g2, 0, none⟩) (ns.length + 1) c2)).heap.size (w2.setCell ⟨B, 0, none⟩ (.slice (some ⟨g2, 0, none⟩) (ns.length + 1) c2))).alloc (Nat.le_refl _) (.cells #[.int .i64 (acc : Int)] 3)))
              have hzb : ((w2.setCell ⟨B, 0, none⟩ (.slice (some ⟨g2, 0, none⟩) (ns.length + 1) c2)).alloc (.cells #[.int .i64 (acc : Int)] 3)).heap.size = w2.heap.size + 1 := by simp
              have P2 := Bk.pushB (x := acc) HKb.out hgrow3 (by rw [bornsOf_len]; exact hown3) (by rw [hzb]; exact hat3)
              have s1 : w3.cell? ⟨B, 1, none⟩ = some vb := (hgrow3.cell_far ⟨B, 1, none⟩ (by rw [hzb]; show B < w2.heap.size + 1; omega) (fun e => HK.out.sb e.symm)).trans HKb.out.c1
              have s1z : w3.frozen? ⟨B, 1, none⟩ = false := (hgrow3.frozen_far ⟨B, 1, none⟩ (by rw [hzb]; show B < w2.heap.size + 1; omega) (fun e => HK.out.sb e.symm)).trans HKb.out.z1
              have s0 : w3.cell? ⟨B, 0, none⟩ = some (.slice (some ⟨g2, 0, none⟩) (ns.length + 1) c2) := (hgrow3.cell_far ⟨B, 0, none⟩ (by rw [hzb]; show B < w2.heap.size + 1; omega) (fun e => HK.out.sb e.symm)).trans HKb.out.c0
              have HKF := Lib.hid P2.1
              have HOF : Hid (Only w (w3.setCell ⟨B, 1, none⟩ (.slice (some ⟨g3, 0, none⟩) (ns.length + 1) c3)) (Foot B vn vb)) := Lib.hid (by
                have o1 : Only w (wr.alloc (.cells #[.slice (some ⟨bL, oL, none⟩) (sortd L).length cL, .slice (some ⟨b, off, none⟩) (sortd R).length cq] 57)) (Foot B vn vb) := Only.of_below (HBr.out.alloc HBr.out.size _)
                have o2 := o1.trans HO3.out (fun i _ h => h)
                have o3 : Only w ((w2.setCell ⟨B, 0, none⟩ (.slice (some ⟨g2, 0, none⟩) (ns.length + 1) c2)).alloc (.cells #[.int .i64 (acc : Int)] 3)) (Foot B vn vb) := o2.trans (Only.of_below (F := Foot B vn vb) ((Below.refl (w2.setCell ⟨B, 0, none⟩ (.slice (some ⟨g2, 0, none⟩) (ns.length + 1) c2)).heap.size (w2.setCell ⟨B, 0, none⟩ (.slice (some ⟨g2, 0, none⟩) (ns.length + 1) c2))).alloc (Nat.le_refl _) (.cells #[.int .i64 (acc : Int)] 3))) (fun i _ h => h)
                refine o3.trans P2.2.1 (fun i hi h => HF3.out i ?_ h)
                have := o1.size
                omega)
              have HFF : Hid (∀ g, g < w.heap.size → Foot B (.slice (some ⟨g2, 0, none⟩) (ns.length + 1) c2) (.slice (some ⟨g3, 0, none⟩) (ns.length + 1) c3) g → Foot B vn vb g) := Lib.hid (fun g hg h => by
                have o1 : Only w (wr.alloc (.cells #[.slice (some ⟨bL, oL, none⟩) (sortd L).length cL, .slice (some ⟨b, off, none⟩) (sortd R).length cq] 57)) (Foot B vn vb) := Only.of_below (HBr.out.alloc HBr.out.size _)
                have h1 := o1.size
                have h2 := HO3.out.size
                have h3 := HZ3.out
                exact HF3.out g (by omega) (P2.2.2 g (by rw [hzb]; omega) h))
              have hwn : IntKind.i64.wrap ((ns.length : Int) + 1 - 1) = (ns.length : Int) := by rw [show (ns.length : Int) + 1 - 1 = ns.length from by omega]; exact IntWalk.i64_in _ (by omega)
              have hwn2 : IntKind.i64.wrap (ns.length : Int) = (ns.length : Int) := IntWalk.i64_in _ (by omega)
              clear P2 hown3 hgrow3 hnil3 hat3 hzb
              go_wp2
              go_ret
              exact ⟨ret_int (by rw [HSE.out]), .slice (some ⟨g2, 0, none⟩) (ns.length + 1) c2, .slice (some ⟨g3, 0, none⟩) (ns.length + 1) c3, vs ++ [(.slice (some ⟨bL, oL, none⟩) (sortd L).length cL, .slice (some ⟨b, off, none⟩) (sortd R).length cq)], by rw [HBP.out, HBB.out]; exact HKF.out, HOF.out, HFF.out⟩


end Go.Proofs.Ytabfdaofikccmaa
