/- The program's WinningMoves. -/
import Derived.Test.YtlhpkoaegldjdaaOrTop
import Derived.Test.YtlhpkoaegldjdaaFmMark
import Derived.Deep.Onto
namespace Go.Proofs.Ytlhpkoaegldjdaa
open Go.RowKit
set_option linter.unusedVariables false
set_option linter.unusedSimpArgs false

/-- the moves that win, among the first of the options -/
def movesK (A : List Nd) (Lo : List Nat) (l : Bool) (k : Nat) : List Int := ((List.range k).filter (fun i => !soloF A (Lo.getD i 0) (!l))).map (fun i : Nat => (i : Int))

theorem movesK_succ (A : List Nd) (Lo : List Nat) (l : Bool) (k o : Nat) (r : Bool) (ho : Lo[k]? = some o) (hr : soloF A o (!l) = r) : movesK A Lo l (k + 1) = movesK A Lo l k ++ if r then [] else [(k : Int)] := by
  unfold movesK
  have e : Lo.getD k 0 = o := by rw [List.getD_eq_getElem?_getD, ho]; rfl
  rw [List.range_succ, List.filter_append, List.map_append]
  congr 1
  rw [List.filter_cons, List.filter_nil, e, hr]
  cases r <;> rfl

theorem movesK_len (A : List Nd) (Lo : List Nat) (l : Bool) (k : Nat) : (movesK A Lo l k).length ≤ k := by
  unfold movesK
  rw [List.length_map]
  exact Nat.le_trans (List.length_filter_le _ _) (by simp)

theorem own_eqv {g q n c : Nat} (e : (Value.slice (some ⟨g, 0, none⟩) n c).ownBlock = some q) : g = q := by injection e

/-- what WinningMoves lists -/
def movesV (f : List Nz) (l : Bool) : List Int := if goodB f then movesK (f.map downN) (optsD (f.map downN) (f.length - 1) l) l (optsD (f.map downN) (f.length - 1) l).length else []

theorem movesV_good {f : List Nz} (h : goodB f = true) (l : Bool) : movesV f l = movesK (f.map downN) (optsD (f.map downN) (f.length - 1) l) l (optsD (f.map downN) (f.length - 1) l).length := by unfold movesV; rw [h]; rfl

theorem Ct.far {w w' : World} {base P g n cap N : Nat} {A B : List Nd} {va vb : Value} (h : Ct w base P g n cap A B va vb) (ho : Only w w' (fun b => N ≤ b)) (hP : P < N) (hg : g < N) (hN : N ≤ w.heap.size) : Ct w' base P g n cap A B va vb := by
  have hPb := block_of_cell h.c0
  have h1 := h.hg
  have hs : SameIn 0 base w w' := ho.sameIn (by omega) (fun b hb e => by omega)
  have hc : ∀ o, w'.cell? ⟨P, o, none⟩ = w.cell? ⟨P, o, none⟩ := fun o => ho.cell hPb (by omega)
  exact ⟨(hc 0).trans h.c0, (hc 1).trans h.c1, (hc 2).trans h.c2, h.na.keep hs, h.nb.keep hs, h.hg, Nat.lt_of_lt_of_le h.hgl ho.size, h.hP⟩

theorem Asked.far {base g n cap N : Nat} {A B : List Nd} {w w1 w2 : World} (h : Asked base g n cap A B w w1) (ho : Only w1 w2 (fun b => N ≤ b)) (hg : g < N) (hN : w.heap.size ≤ N) : Asked base g n cap A B w w2 := by
  obtain ⟨cs, k1, k2, k3⟩ := h
  exact ⟨cs, k1, own_only k2 ho (fun b e h2 => by have e2 := own_eqv e; omega), k3.trans ho (fun i h1 h2 => by omega)⟩

theorem Held.below {w w1 w2 : World} {P : Nat} {A B : List Nd} {va vb : Value} (h : Held w w1 P A B va vb) (hb : Below w1.heap.size w1 w2) : Held w w2 P A B va vb := by
  obtain ⟨gg, n, cap, cs, hc, hw, hrow, hb0⟩ := h
  exact ⟨gg, n, cap, cs, hc.below hb, hw, hrow.below hb, hb0.trans (hb.mono hb0.size)⟩

/-- the form's last node, cell by cell -/
theorem last_at {w : World} {lo hi : Nat} {va : Value} {f : List Nz} (hva : NodesZ w lo hi va f) (h1 : goodB f = true) :
    ∃ b off c v1 v2 n1 n2, va = .slice (some ⟨b, off, none⟩) f.length c ∧ b < hi ∧ w.cell? ⟨b, off + (f.length - 1) * 2, none⟩ = some v1 ∧ w.cell? ⟨b, off + (f.length - 1) * 2 + 1, none⟩ = some v2 ∧ IntsZ w lo hi v1 (upL n1) ∧ IntsZ w lo hi v2 (upL n2) ∧
      optsD (f.map downN) (f.length - 1) true = n1 ∧ optsD (f.map downN) (f.length - 1) false = n2 ∧ n1.length ≤ 24 ∧ n2.length ≤ 24 := by
  obtain ⟨hf1, hf2, _⟩ := (goodB_iff f).1 h1
  have e1 : (f.map downN).length = f.length := by simp
  have h0 := hf1.1
  obtain ⟨nd, hnd⟩ := lt_get (l := f.map downN) (i := f.length - 1) (by rw [e1]; omega)
  have hl : nd.1.length ≤ 24 ∧ nd.2.length ≤ 24 := by
    obtain ⟨x, hx, rfl⟩ := List.mem_map.1 (List.mem_of_getElem? hnd)
    have := hf1.2.2 x hx
    simpa [downN, downL] using this
  obtain ⟨b, off, c, v1, v2, e, hb, c1, c2, i1, i2⟩ := nodes_at (by rw [hf2.up.1]; exact hva) hnd
  rw [e1] at e
  exact ⟨b, off, c, v1, v2, nd.1, nd.2, e, hb, c1, c2, i1, i2, by unfold optsD; rw [nodeD_at hnd]; rfl, by unfold optsD; rw [nodeD_at hnd]; rfl, hl⟩

set_option maxRecDepth 100000 in
set_option maxHeartbeats 4000000 in
theorem winningI_calls (va : Value) (f : List Nz) (l ok : Bool) (ms : List Int) (hok : Hid (goodB f = ok)) (hm : Hid (movesV f l = ms)) (w : World) (lo hi : Nat) (hh : hi ≤ w.heap.size) (hva : NodesZ w lo hi va f) :
    Calls Try.prog 46 #[.agg #[va], .bool l] w fun e w' => ∃ v, e = .returned (.tuple #[v, .bool ok]) ∧ OwnI w' w.heap.size v ms ∧ Below w.heap.size w w' := by
  obtain ⟨i0, hi0, hz0, hz1, hz2⟩ := info_parts infoIntA
  have HB0 := Lib.hid fun o => show Below w.heap.size w (w.alloc o) from ((Below.refl _ _).alloc (Nat.le_refl _) _)
  have HVA := Lib.hid fun (W : World) (hW : Below w.heap.size w W) => hva.below hW hh
  clear hva
  cases ok with
  | false =>
    obtain rfl : ms = [] := by rw [← hm.out]; unfold movesV; rw [hok.out]; rfl
    have C := Lib.hid fun (W : World) (vb : Value) (hW : Below w.heap.size w W) (hb : CopyOf W vb [([], [])]) => show Calls Try.prog 78 #[.agg #[va], .agg #[vb]] W fun e w' => e = .returned (.tuple #[.pointer none, .bool false]) ∧ Below W.heap.size W w' from by
      obtain ⟨lo', hi', hh', hvb⟩ := hb
      exact contest_bad va vb f [([], [])] false true hok (Lib.hid good_zero) rfl W lo hi lo' hi' (Nat.le_trans hh hW.size) hh' (HVA.out W hW) hvb
    go_enter Try.func46, Try.ntmps46
    have k0 : (w.alloc (.cells #[va] 26)).cell? ⟨w.heap.size, 0, none⟩ = some va := by go_simp
    have hS := HB0.out (.cells #[va] 26)
    have hlt0 := block_of_cell k0
    go_upto_region 1 with fail
    generalize (w.alloc (.cells #[va] 26)) = W1 at k0 hS hlt0
    have HS := Lib.hid hS
    have hbd : Below W1.heap.size W1 W1.drew := below_drewN (Below.refl _ _) 1
    have hS0 := held1 k0 hlt0 hbd
    clear hS HB0 hok hm
    go_region_held3 (fun w' : World => w'.cell? ⟨w.heap.size, 0, none⟩ = some va ∧ Below W1.heap.size W1 w') (first | exact hS0 | (go_split_ands; exact ⟨‹_›, ‹_›⟩) | exact held1 k0 hlt0 hbB | exact held1 k0 hlt0 hbA) (first
      | (go_at_call 78; (with_reducible refine (C.out wa _ (HS.out.trans (hbA.mono HS.out.size)) hca).mono ?_); rintro e wb ⟨rfl, hbb⟩; have hbB := hbA.trans (hbb.mono hbA.size))
      | (go_at_call 84; (with_reducible refine (nothing_calls _).mono ?_); rintro e wa ⟨vz, rfl, hca, hba⟩; have hbA := hbd.trans (hba.mono hbd.size)))
    all_goals
      rename_i hH
      have HBB : Hid (Below w.heap.size w wb) := Lib.hid (HS.out.trans (hbB.mono HS.out.size))
      clear hH hca C hbB hbA hba hbb hbd hS0 k0
      have HBE : Hid (Below w.heap.size w (wb.alloc (.cells #[] 3))) := Lib.hid (HBB.out.alloc HBB.out.size _)
      have HOE : Hid (OwnI (wb.alloc (.cells #[] 3)) w.heap.size (.slice (some ⟨wb.heap.size, 0, none⟩) 0 0) []) := Lib.hid (World.ownsRow_lit (base := w.heap.size) (e := 3) (size := 1) wb #[] 0 HBB.out.size (by unfold maxLen; omega) rfl)
      go_wp2_with fail
      exact bodyPost_ret (v := .tuple #[.slice (some ⟨wb.heap.size, 0, none⟩) 0 0, .bool false]) (by simp [results, Try.results46, go_sem]) rfl ⟨_, rfl, HOE.out, HBE.out⟩
  | true =>
    have hg := hok.out
    have h0 := ((goodB_iff f).1 hg).1.1
    have h120 := ((goodB_iff f).1 hg).1.2.1
    have HM : Hid (movesK (f.map downN) (optsD (f.map downN) (f.length - 1) l) l (optsD (f.map downN) (f.length - 1) l).length = ms) := Lib.hid (by rw [← movesV_good hg]; exact hm.out)
    have C := Lib.hid fun (W : World) (vb : Value) (hW : Below w.heap.size w W) (hb : CopyOf W vb [([], [])]) => show Calls Try.prog 78 #[.agg #[va], .agg #[vb]] W fun e w' => ∃ P, e = .returned (.tuple #[.pointer (some ⟨P, 0, none⟩), .bool true]) ∧ Held W w' P (f.map downN) [([], [])] va vb from by
      obtain ⟨lo', hi', hh', hvb⟩ := hb
      exact contest_good va vb f [([], [])] hg good_zero W lo hi lo' hi' (Nat.le_trans hh hW.size) hh' (HVA.out W hW) hvb
    have HG := Lib.hid hg
    go_enter Try.func46, Try.ntmps46
    have k0 : (w.alloc (.cells #[va] 26)).cell? ⟨w.heap.size, 0, none⟩ = some va := by go_simp
    have hS := HB0.out (.cells #[va] 26)
    have hlt0 := block_of_cell k0
    go_upto_region 1 with fail
    generalize (w.alloc (.cells #[va] 26)) = W1 at k0 hS hlt0
    have HS := Lib.hid hS
    have hbd : Below W1.heap.size W1 W1.drew := below_drewN (Below.refl _ _) 1
    have hS0 := held1 k0 hlt0 hbd
    clear hS HB0 hok hm hg
    go_region_held3 (fun w' : World => w'.cell? ⟨w.heap.size, 0, none⟩ = some va ∧ Below W1.heap.size W1 w') (first | exact hS0 | (go_split_ands; exact ⟨‹_›, ‹_›⟩) | exact held1 k0 hlt0 hbB | exact held1 k0 hlt0 hbA) (first
      | (go_at_call 78; (with_reducible refine (C.out wa _ (HS.out.trans (hbA.mono HS.out.size)) hca).mono ?_); rintro e wb ⟨P, rfl, hH1⟩; have hbB := hbA.trans ((held_below hH1).mono hbA.size))
      | (go_at_call 84; (with_reducible refine (nothing_calls _).mono ?_); rintro e wa ⟨vz, rfl, hca, hba⟩; have hbA := hbd.trans (hba.mono hbd.size)))
    all_goals
      rename_i hH
      have HBB : Hid (Below w.heap.size w wb) := Lib.hid (HS.out.trans (hbB.mono HS.out.size))
      have HWA : Hid (w.heap.size ≤ wa.heap.size) := Lib.hid (Nat.le_trans HS.out.size hbA.size)
      have kf := hH.1
      obtain ⟨b, off, cc, v1, v2, n1, n2, rfl, hbh, p1, p2, i1, i2, q1, q2, z1, z2⟩ := last_at (HVA.out wb HBB.out) HG.out
      have HH1 := Lib.hid hH1
      clear hH hca C hbB hbA hba hbd hS0 k0 hH1
      have hn1 : IntKind.i64.wrap ((f.length : Int) - 1) = ((f.length - 1 : Nat) : Int) := by rw [IntWalk.i64_in _ (by omega)]; omega
      have hn2 : ((f.length - 1 : Nat) : Int) < f.length := by omega
      go_wp2_with fail
      refine (options_calls v1 v2 l wb).mono ?_
      rintro e wc ⟨rfl, hb⟩
      obtain ⟨vo, Lo, hvo, hio, hLo, hL24⟩ : ∃ vo Lo, (if l then v1 else v2) = vo ∧ IntsZ wc lo hi vo (upL Lo) ∧ Hid (optsD (f.map downN) (f.length - 1) l = Lo) ∧ Lo.length ≤ 24 := by
        cases l with
        | true => exact ⟨v1, n1, rfl, i1.below hb (by have := HBB.out.size; omega), Lib.hid q1, z1⟩
        | false => exact ⟨v2, n2, rfl, i2.below hb (by have := HBB.out.size; omega), Lib.hid q2, z2⟩
      rw [hvo]
      rw [hLo.out] at HM
      have HL1 : Hid (∀ o, o ∈ Lo → o < f.length) := Lib.hid (fun o ho => by
        have hu := ((goodB_iff f).1 HG.out).2.1.up.2.under
        rw [← hLo.out] at ho
        have := optsD_lt hu ho
        omega)
      obtain ⟨gg, n, cap, cs, hc, hw, hrow, hb0⟩ := HH1.out.below hb
      have hPn := block_of_cell hc.c0
      have hgn := hc.hgl
      have hgb := hc.hg
      have HC0 := Lib.hid hc
      have HA0 : Hid (Asked wa.heap.size gg n cap (f.map downN) [([], [])] wc wc) := Lib.hid ⟨cs, hw, hrow, Only.refl _ _⟩
      have CW : Hid (∀ (o : Nat), o < f.length → ∀ (r : Bool), soloF (f.map downN) o (!l) = r → ∀ W, Ct W wa.heap.size P gg n cap (f.map downN) [([], [])] (.slice (some ⟨b, off, none⟩) f.length cc) vz → Asked wa.heap.size gg n cap (f.map downN) [([], [])] wc W → Calls Try.prog 88 #[.pointer (some ⟨P, 0, none⟩), .int .i64 o, .int .i64 0, .bool (!l)] W fun e w' => e = .returned (.bool r) ∧ Asked wa.heap.size gg n cap (f.map downN) [([], [])] W w') := Lib.hid (fun o ho r hr W hcW haW => by
        obtain ⟨cs', h1, h2, h3⟩ := haW
        obtain ⟨hf1, hf2, _⟩ := (goodB_iff f).1 HG.out
        have e1 : (f.map downN).length = f.length := by simp
        have hu0 : Under ([([], [])] : List Nd) := ((goodB_iff [([], [])]).1 good_zero).2.1.up.2.under
        have C := wins_calls wa.heap.size P gg n cap (f.map downN) [([], [])] _ vz hf2.up.2.under hu0 (by rw [e1]; omega) (by simp) (o + 0 + 1) o 0 (!l) cs' W (by omega) (by rw [e1]; exact ho) (by simp) hcW h1 h2
        have hr' : winF (f.map downN) [([], [])] o 0 (!l) = r := hr
        rw [hr'] at C
        exact C)
      clear hc hw hrow hb0
      have HBC : Hid (Below w.heap.size w wc) := Lib.hid (HBB.out.trans (hb.mono HBB.out.size))
      obtain ⟨ao, co, rfl, hco⟩ := ints_len hio
      have HIO := Lib.hid hio
      have HO0 : Hid (OwnI wc wc.heap.size (.slice none 0 0) (movesK (List.map downN f) Lo l 0)) := Lib.hid (OwnI.nil _ _)
      have HCS : Hid (w.heap.size ≤ wc.heap.size) := Lib.hid HBC.out.size
      clear hb i1 i2 p1 p2 hvo hio q1 q2 HBB HH1 kf HVA HS hlt0
      go_wp2
      go_loopw [8, 31] (fun q i wr => ∃ k : Nat, k ≤ Lo.length ∧ i = .int .i64 k ∧ Hid (OwnI wr wc.heap.size q (movesK (f.map downN) Lo l k)) ∧ Hid (Asked wa.heap.size gg n cap (f.map downN) [([], [])] wc wr) ∧ Hid (Ct wr wa.heap.size P gg n cap (f.map downN) [([], [])] (.slice (some ⟨b, off, none⟩) f.length cc) vz) ∧ Hid (IntsZ wr lo hi (.slice ao Lo.length co) (upL Lo)) ∧ Hid (Below w.heap.size w wr) ∧ wc.heap.size ≤ wr.heap.size) (fun _ i _ => Lo.length - (intOf i).toNat)
      case atStart => exact ⟨0, Nat.zero_le _, rfl, HO0, HA0, HC0, HIO, HBC, Nat.le_refl _⟩
      case round =>
        obtain ⟨k, hk, rfl, hown, ha, hc, hio, hbw, hsz⟩ := hrel
        clear HO0 HA0 HC0 HIO HBC
        by_cases hlt : k < Lo.length
        · obtain ⟨o, ho⟩ := lt_get hlt
          have hoi := HL1.out o (List.mem_of_getElem? ho)
          obtain ⟨b', off', rfl, hbb, hcell⟩ := ints_at hio.out ho
          obtain ⟨r, hr⟩ : ∃ r, soloF (f.map downN) o (!l) = r := ⟨_, rfl⟩
          have HS := Lib.hid (movesK_succ (f.map downN) Lo l k o r ho hr)
          have C := Lib.hid (fun W (hW : Below wr.heap.size wr W) => CW.out o hoi r hr W (hc.out.below hW) (ha.out.below hW))
          clear ho hr
          have b0 : (0 : Int) ≤ k := by omega
          have b1' : (k : Int) < Lo.length := by omega
          cases r with
          | true =>
            have HS2 : Hid (movesK (f.map downN) Lo l (k + 1) = movesK (f.map downN) Lo l k) := Lib.hid (by rw [HS.out]; simp)
            clear HS
            go_wp2_with fail
            refine (C.out _ (Below.refl _ _)).mono ?_
            rintro e w2 ⟨rfl, ha2⟩
            have ho2 := ha2.only
            have hb2 : Below w.heap.size wr w2 := ho2.below hbw.out.size (fun b e => by have := HWA.out; omega)
            have A2 := Lib.hid (ha.out.trans ha2)
            have C2 := Lib.hid (hc.out.only ho2)
            have I2 := Lib.hid (hio.out.below hb2 hh)
            have B2 := Lib.hid (hbw.out.trans hb2)
            have O2 : Hid (OwnI w2 wc.heap.size u8 (movesK (f.map downN) Lo l (k + 1))) := Lib.hid (by rw [HS2.out]; exact hown.out.only ho2 (fun g h e => by have := hown.out.lt g h; omega))
            have hs2 := ho2.size
            clear ha2 ho2 hb2 hown ha hc hio hbw C HS2
            go_wp2_with fail
            go_roundw
            case rel => exact ⟨k + 1, by omega, by go_num, O2, A2, C2, I2, B2, by omega⟩
            case measure => simp [intOf]; omega
          | false =>
            have HS2 : Hid (movesK (f.map downN) Lo l (k + 1) = movesK (f.map downN) Lo l k ++ [(k : Int)]) := Lib.hid (by rw [HS.out]; simp)
            clear HS
            go_wp2_with fail
            refine (C.out _ (Below.refl _ _)).mono ?_
            rintro e w2 ⟨rfl, ha2⟩
            have ho2 := ha2.only
            have hb2 : Below w.heap.size wr w2 := ho2.below hbw.out.size (fun b e => by have := HWA.out; omega)
            have A2 := Lib.hid (ha.out.trans ha2)
            have C2 := Lib.hid (hc.out.only ho2)
            have I2 := Lib.hid (hio.out.below hb2 hh)
            have B2 := Lib.hid (hbw.out.trans hb2)
            have O2 : Hid (OwnI w2 wc.heap.size u8 (movesK (f.map downN) Lo l k)) := Lib.hid (hown.out.only ho2 (fun g h e => by have := hown.out.lt g h; omega))
            have hs2 := ho2.size
            have hml := movesK_len (f.map downN) Lo l k
            have hcs := HCS.out
            clear ha2 ho2 hb2 hown ha hc hio hbw C
            go_wp2_with (at_builtin; refine wpList_append_own_at _ rfl _ _ 56 rfl wc.heap.size 3 i0 (.int .i64 0) 1 8 Try.underlying56 hi0 hz0 hz1 hz2 rfl (by decide) _ _ _ rfl (World.ownsRow.alloc O2.out _) ⟨w2.heap.size, 0, none⟩ 1 1 [.int .i64 (k : Int)] rfl rfl ?e1 ?e2 ?e3 ?e4 ?e5 ?_)
            case e1 => exact World.news_of_block (heap_alloc_new _ _)
            case e2 => first | rfl | (intro u hu; simp at hu; subst hu; rfl)
            case e3 => unfold maxLen; omega
            case e4 => omega
            case e5 => simp; omega
            intro v6 w6 hown6 hgrow6 hnil6 hat6
            have hzA : (w2.alloc (.cells #[.int .i64 (k : Int)] 3)).heap.size = w2.heap.size + 1 := by simp
            have O6 : Hid (OwnI w6 wc.heap.size v6 (movesK (f.map downN) Lo l (k + 1))) := Lib.hid (by rw [HS2.out]; unfold OwnI; rw [List.map_append, List.length_append]; exact hown6)
            have hfar : Only w2 w6 (fun b => wc.heap.size ≤ b) := (Only.of_below (F := fun b => wc.heap.size ≤ b) ((Below.refl _ _).alloc (Nat.le_refl _) _)).trans (Only.of_grown (F := fun b => wc.heap.size ≤ b) hgrow6 (fun g e => (O2.out.lt g e).1)) (fun _ _ h => h)
            have A6 := Lib.hid (A2.out.far hfar hgn (Nat.le_refl _))
            have C6 := Lib.hid (C2.out.far hfar hPn hgn (by omega))
            have hb6 : Below w.heap.size w2 w6 := hfar.below (by omega) (fun g h => by omega)
            have I6 := Lib.hid (I2.out.below hb6 hh)
            have B6 := Lib.hid (B2.out.trans hb6)
            have hs6 := hfar.size
            clear hown6 hgrow6 hnil6 hat6 hfar hb6 A2 C2 I2 B2 O2 HS2 hzA
            go_wp2_with fail
            go_roundw
            case rel => exact ⟨k + 1, by omega, by go_num, O6, A6, C6, I6, B6, by omega⟩
            case measure => simp [intOf]; omega
        · have hke : k = Lo.length := by omega
          subst hke
          rw [HM.out] at hown
          have OF := Lib.hid (hown.out.mono HCS.out)
          clear hown ha hc hio HM HL1 CW
          go_wp2_with fail
          exact bodyPost_ret (v := .tuple #[u8, .bool true]) (by simp [results, Try.results46, go_sem]) rfl ⟨_, rfl, OF.out, hbw.out⟩

end Go.Proofs.Ytlhpkoaegldjdaa
