/- Who wins the difference of two games. -/
import Derived.Test.YtjllpcnbahdmhaaOrMath
import Derived.Test.YtjllpcnbahdmhaaFmBase
import Derived.Test.YtjllpcnbahdmhaaOrI
import Derived.Test.YtjllpcnbahdmhaaFmLaw
import Derived.Test.YtjllpcnbahdmhaaFmMark
import Derived.Deep.Onto
import Derived.StillTailTactics
import Derived.Laws.CopyOwn
import Derived.Laws.Tables
import Derived.Deep.RegionHeld3
import Derived.Test.YtjllpcnbahdmhaaInForm
import Derived.Test.YtjllpcnbahdmhaaFmPart
import Derived.Deep.LoopGhost
import Derived.WalkMore
import Derived.Test.YtjllpcnbahdmhaaOrL4
import Derived.Test.YtjllpcnbahdmhaaFmPut
import Derived.Deep.RegionLaw
import Derived.Test.YtjllpcnbahdmhaaGsR
namespace Go.Proofs.Ytjllpcnbahdmhaa
section
open Go.RowKit
set_option linter.unusedVariables false
set_option linter.unusedSimpArgs false

/-- who wins the difference of two games -/
def diffF (f g : List Nz) (l : Bool) : Bool := winF (f.map downN) (g.map downN) (f.length - 1) (g.length - 1) l

theorem held1 {w w' : World} {b : Nat} {v : Value} (h : w.cell? ⟨b, 0, none⟩ = some v) (hb : b < w.heap.size) (hB : Below w.heap.size w w') : w'.cell? ⟨b, 0, none⟩ = some v ∧ Below w.heap.size w w' := ⟨(bcell hB b 0 hb).trans h, hB⟩
end

section
open Go.RowKit
set_option linter.unusedVariables false
set_option linter.unusedSimpArgs false

theorem infoNodeI : (Try.prog.info? 67).map (fun i => (i.zero, i.size, i.bytes)) = some (some (.agg #[.slice none 0 0, .slice none 0 0]), 2, 48) := by kernel_rfl

theorem nothing_made (w w1 : World) (hown : w1.ownsRow w.heap.size 67 2 (.slice (some ⟨(w.alloc (.cells #[.slice none 0 0] 28)).heap.size, 0, none⟩) 1 1) 1 (madeCells (Value.agg #[.slice none 0 0, .slice none 0 0]).cells (1 * 2)).toList)
    (hg : (w.alloc (.cells #[.slice none 0 0] 28)).grownBy w1 none) :
    w1.cell? ⟨w.heap.size, 0, none⟩ = some (.slice none 0 0) ∧ w1.frozen? ⟨w.heap.size, 0, none⟩ = false ∧
    Hid ((w1.setCell ⟨w.heap.size, 0, none⟩ (.slice (some ⟨w.heap.size + 1, 0, none⟩) 1 1)).cell? ⟨w.heap.size, 0, none⟩ = some (.slice (some ⟨w.heap.size + 1, 0, none⟩) 1 1) ∧ CopyOf (w1.setCell ⟨w.heap.size, 0, none⟩ (.slice (some ⟨w.heap.size + 1, 0, none⟩) 1 1)) (.slice (some ⟨w.heap.size + 1, 0, none⟩) 1 1) [([], [])]) ∧
    Hid (Below w.heap.size w (w1.setCell ⟨w.heap.size, 0, none⟩ (.slice (some ⟨w.heap.size + 1, 0, none⟩) 1 1))) := by
  have hs : (w.alloc (.cells #[.slice none 0 0] 28)).heap.size = w.heap.size + 1 := by simp
  rw [hs] at hown
  have hblk := hg.block w.heap.size (by rw [hs]; omega) (by simp)
  have h0 : w1.cell? ⟨w.heap.size, 0, none⟩ = some (.slice none 0 0) := (World.cell?_of_block (a := ⟨w.heap.size, 0, none⟩) hblk).trans (by go_simp)
  have hf : w1.frozen? ⟨w.heap.size, 0, none⟩ = false := (World.frozen?_of_block (a := ⟨w.heap.size, 0, none⟩) hblk).trans (by go_simp)
  have c0 : w1.cell? ⟨w.heap.size + 1, 0, none⟩ = some (.slice none 0 0) := (World.ownsRow.cellAt hown 0 (by omega)).trans (by simp [madeCells, Value.cells])
  have c1 : w1.cell? ⟨w.heap.size + 1, 1, none⟩ = some (.slice none 0 0) := (World.ownsRow.cellAt hown 1 (by omega)).trans (by simp [madeCells, Value.cells])
  have hb : Below w.heap.size w w1 := ((Below.refl _ _).alloc (Nat.le_refl _) _).grown hg (by simp) (fun k hk => by cases hk)
  have ho : ∀ o, (w1.setCell ⟨w.heap.size, 0, none⟩ (.slice (some ⟨w.heap.size + 1, 0, none⟩) 1 1)).cell? ⟨w.heap.size + 1, o, none⟩ = w1.cell? ⟨w.heap.size + 1, o, none⟩ := fun o => World.cell?_setCell_other _ _ _ _ (fun e => by injection e with e _ _; omega)
  have hlt := block_of_cell c0
  refine ⟨h0, hf, Lib.hid ⟨World.cell?_setCell_same _ _ _ h0, 0, _, Nat.le_refl _, some ⟨w.heap.size + 1, 0, none⟩, 1, rfl, ⟨by simp, by omega⟩, fun j nd hnd => ?_⟩, Lib.hid ⟨hb.os, hb.tape, hb.output, by simpa using hb.size, fun k hk => ?_⟩⟩
  · have hj : j = 0 := by have := get_lt hnd; simp at this; omega
    subst hj
    simp at hnd
    subst hnd
    have hnil : ∀ W lo hi, IntsZ W lo hi (.slice none 0 0) [] := fun W lo hi => ⟨none, 0, rfl, ⟨by simp, by omega⟩, fun j x hx => by simp at hx⟩
    exact ⟨w.heap.size + 1, 0, _, _, rfl, Nat.zero_le _, by simpa using hlt, (ho _).trans c0, (ho _).trans c1, hnil _ _ _, hnil _ _ _⟩
  · exact (Below.heap_setCell w1 ⟨w.heap.size, 0, none⟩ _ k (by simp; omega)).trans (hb.block k hk)

set_option maxRecDepth 100000 in
theorem nothing_calls (w : World) : Calls Try.prog 60 #[] w fun e w' => ∃ v, e = .returned (.agg #[v]) ∧ CopyOf w' v [([], [])] ∧ Below w.heap.size w w' := by
  obtain ⟨i0, hi0, hz0, hz1, hz2⟩ := info_parts infoNodeI
  go_enter Try.func60, Try.ntmps60
  go_wp2_with (at_make; refine wpList_make_full _ rfl _ _ 26 rfl w.heap.size 67 i0 (.agg #[.slice none 0 0, .slice none 0 0]) 2 Try.underlying26 hi0 hz0 hz1 _ _ _ _ 1 rfl rfl (by first | rfl | (simp; done)) (by first | rfl | (simp; done)) (by rw [hz2]; omega) (by unfold maxLen; omega) (by simp) ?_; intro w1 hown hg; obtain ⟨h0, hf, HN, HB⟩ := nothing_made w w1 hown hg; clear hown hg)
  exact bodyPost_ret (v := .agg #[.slice (some ⟨w.heap.size + 1, 0, none⟩) 1 1]) (by simp [results, Try.results60, go_sem, HN.out.1]) rfl ⟨_, rfl, HN.out.2, HB.out⟩

theorem good_zero : goodB [([], [])] = true := by decide

theorem diff_zero (f : List Nz) (l : Bool) : diffF f [([], [])] l = soloF (f.map downN) (f.length - 1) l := rfl

theorem held_below {w w1 : World} {P : Nat} {A B : List Nd} {va vb : Value} (h : Held w w1 P A B va vb) : Below w.heap.size w w1 := by obtain ⟨_, _, _, _, _, _, _, hb⟩ := h; exact hb
end

section
open Go.RowKit
set_option linter.unusedVariables false
set_option linter.unusedSimpArgs false

/-- the moves of the first game that win the difference, among the first of the options -/
def movesG (A B : List Nd) (Lo : List Nat) (l : Bool) (k : Nat) : List Int := ((List.range k).filter (fun i => !winF A B (Lo.getD i 0) (B.length - 1) (!l))).map (fun i : Nat => (i : Int))

theorem movesG_succ (A B : List Nd) (Lo : List Nat) (l : Bool) (k o : Nat) (r : Bool) (ho : Lo[k]? = some o) (hr : winF A B o (B.length - 1) (!l) = r) : movesG A B Lo l (k + 1) = movesG A B Lo l k ++ if r then [] else [(k : Int)] := by
  unfold movesG
  have e : Lo.getD k 0 = o := by rw [List.getD_eq_getElem?_getD, ho]; rfl
  rw [List.range_succ, List.filter_append, List.map_append]
  congr 1
  rw [List.filter_cons, List.filter_nil, e, hr]
  cases r <;> rfl

theorem movesG_len (A B : List Nd) (Lo : List Nat) (l : Bool) (k : Nat) : (movesG A B Lo l k).length ≤ k := by
  unfold movesG
  rw [List.length_map]
  exact Nat.le_trans (List.length_filter_le _ _) (by simp)

/-- the moves that win, among the first of the options -/
def movesK (A : List Nd) (Lo : List Nat) (l : Bool) (k : Nat) : List Int := ((List.range k).filter (fun i => !soloF A (Lo.getD i 0) (!l))).map (fun i : Nat => (i : Int))

theorem movesK_succ (A : List Nd) (Lo : List Nat) (l : Bool) (k o : Nat) (r : Bool) (ho : Lo[k]? = some o) (hr : soloF A o (!l) = r) : movesK A Lo l (k + 1) = movesK A Lo l k ++ if r then [] else [(k : Int)] := by
  unfold movesK
  have e : Lo.getD k 0 = o := by rw [List.getD_eq_getElem?_getD, ho]; rfl
  rw [List.range_succ, List.filter_append, List.map_append]
  congr 1
  rw [List.filter_cons, List.filter_nil, e, hr]
  cases r <;> rfl

theorem movesK_len (A : List Nd) (Lo : List Nat) (l : Bool) (k : Nat) : (movesK A Lo l k).length ≤ k := by
  unfold movesK
  rw [List.length_map]
  exact Nat.le_trans (List.length_filter_le _ _) (by simp)

theorem own_eqv {g q n c : Nat} (e : (Value.slice (some ⟨g, 0, none⟩) n c).ownBlock = some q) : g = q := by injection e

/-- what WinningMoves lists -/
def movesV (f : List Nz) (l : Bool) : List Int := if goodB f then movesK (f.map downN) (optsD (f.map downN) (f.length - 1) l) l (optsD (f.map downN) (f.length - 1) l).length else []

theorem movesV_good {f : List Nz} (h : goodB f = true) (l : Bool) : movesV f l = movesK (f.map downN) (optsD (f.map downN) (f.length - 1) l) l (optsD (f.map downN) (f.length - 1) l).length := by unfold movesV; rw [h]; rfl

theorem Ct.far {w w' : World} {base P g n cap N : Nat} {A B : List Nd} {va vb : Value} (h : Ct w base P g n cap A B va vb) (ho : Only w w' (fun b => N ≤ b)) (hP : P < N) (hg : g < N) (hN : N ≤ w.heap.size) : Ct w' base P g n cap A B va vb := by
  have hPb := block_of_cell h.c0
  have h1 := h.hg
  have hs : SameIn 0 base w w' := ho.sameIn (by omega) (fun b hb e => by omega)
  have hc : ∀ o, w'.cell? ⟨P, o, none⟩ = w.cell? ⟨P, o, none⟩ := fun o => ho.cell hPb (by omega)
  exact ⟨(hc 0).trans h.c0, (hc 1).trans h.c1, (hc 2).trans h.c2, h.na.keep hs, h.nb.keep hs, h.hg, Nat.lt_of_lt_of_le h.hgl ho.size, h.hP⟩

theorem Asked.far {base g n cap N : Nat} {A B : List Nd} {w w1 w2 : World} (h : Asked base g n cap A B w w1) (ho : Only w1 w2 (fun b => N ≤ b)) (hg : g < N) (hN : w.heap.size ≤ N) : Asked base g n cap A B w w2 := by
  obtain ⟨cs, k1, k2, k3⟩ := h
  exact ⟨cs, k1, own_only k2 ho (fun b e h2 => by have e2 := own_eqv e; omega), k3.trans ho (fun i h1 h2 => by omega)⟩

theorem Held.below {w w1 w2 : World} {P : Nat} {A B : List Nd} {va vb : Value} (h : Held w w1 P A B va vb) (hb : Below w1.heap.size w1 w2) : Held w w2 P A B va vb := by
  obtain ⟨gg, n, cap, cs, hc, hw, hrow, hb0⟩ := h
  exact ⟨gg, n, cap, cs, hc.below hb, hw, hrow.below hb, hb0.trans (hb.mono hb0.size)⟩

/-- the form's last node, cell by cell -/
theorem last_at {w : World} {lo hi : Nat} {va : Value} {f : List Nz} (hva : NodesZ w lo hi va f) (h1 : goodB f = true) :
    ∃ b off c v1 v2 n1 n2, va = .slice (some ⟨b, off, none⟩) f.length c ∧ b < hi ∧ w.cell? ⟨b, off + (f.length - 1) * 2, none⟩ = some v1 ∧ w.cell? ⟨b, off + (f.length - 1) * 2 + 1, none⟩ = some v2 ∧ IntsZ w lo hi v1 (upL n1) ∧ IntsZ w lo hi v2 (upL n2) ∧
      optsD (f.map downN) (f.length - 1) true = n1 ∧ optsD (f.map downN) (f.length - 1) false = n2 ∧ n1.length ≤ 24 ∧ n2.length ≤ 24 := by
  obtain ⟨hf1, hf2, _⟩ := (goodB_iff f).1 h1
  have e1 : (f.map downN).length = f.length := by simp
  have h0 := hf1.1
  obtain ⟨nd, hnd⟩ := lt_get (l := f.map downN) (i := f.length - 1) (by rw [e1]; omega)
  have hl : nd.1.length ≤ 24 ∧ nd.2.length ≤ 24 := by
    obtain ⟨x, hx, rfl⟩ := List.mem_map.1 (List.mem_of_getElem? hnd)
    have := hf1.2.2 x hx
    simpa [downN, downL] using this
  obtain ⟨b, off, c, v1, v2, e, hb, c1, c2, i1, i2⟩ := nodes_at (by rw [hf2.up.1]; exact hva) hnd
  rw [e1] at e
  exact ⟨b, off, c, v1, v2, nd.1, nd.2, e, hb, c1, c2, i1, i2, by unfold optsD; rw [nodeD_at hnd]; rfl, by unfold optsD; rw [nodeD_at hnd]; rfl, hl⟩
end

section
open Go.RowKit
set_option linter.unusedVariables false
set_option linter.unusedSimpArgs false

set_option maxRecDepth 100000 in
set_option maxHeartbeats 4000000 in
theorem movesC_calls (base P gg n cap : Nat) (A B : List Nd) (va vb : Value) (hA : Under A) (hB : Under B) (hAl : A.length ≤ 1000) (hBl : B.length ≤ 1000) (h0 : 0 < A.length) (h1 : 0 < B.length) (l : Bool) (Lo : List Nat) (ms : List Int) (hLo : Hid (optsD A (A.length - 1) l = Lo)) (hL24 : Lo.length ≤ 1000)
    (HM : Hid (movesG A B Lo l Lo.length = ms)) (w : World) (h : Ct w base P gg n cap A B va vb) (cs : List Int) (hw : Wn A B cs) (hr : RowV base gg n cap cs w) :
    Calls Try.prog 61 #[.pointer (some ⟨P, 0, none⟩), .bool l] w fun e w' => ∃ v, e = .returned v ∧ OwnI w' w.heap.size v ms ∧ Asked base gg n cap A B w w' := by
  obtain ⟨i0, hi0, hz0, hz1, hz2⟩ := info_parts infoIntA
  obtain ⟨x, hx⟩ := lt_get (l := A) (i := A.length - 1) (by omega)
  obtain ⟨b, off, cc, v1, v2, rfl, hbh, p1, p2, i1, i2⟩ := nodes_at h.na hx
  obtain ⟨a2, b2, rfl⟩ : ∃ ao c, vb = .slice ao B.length c := by obtain ⟨ao, c, e, _⟩ := h.nb; rw [List.length_map] at e; exact ⟨ao, c, e⟩
  have hbz := h.hg
  have hbz2 := h.hgl
  have k0 := h.c0
  have k1 := h.c1
  have hPl := block_of_cell k0
  have HC := Lib.hid h
  have L1 : Hid (optsD A (A.length - 1) l = if l then x.1 else x.2) := Lib.hid (by unfold optsD; rw [nodeD_at hx])
  have HL1 : Hid (∀ o, o ∈ Lo → o < A.length) := Lib.hid (fun o ho => by rw [← hLo.out] at ho; have := optsD_lt hA ho; omega)
  have CW : Hid (∀ (o : Nat), o < A.length → ∀ (r : Bool), winF A B o (B.length - 1) (!l) = r → ∀ W, Ct W base P gg n cap A B (.slice (some ⟨b, off, none⟩) A.length cc) (.slice a2 B.length b2) → Asked base gg n cap A B w W → Calls Try.prog 101 #[.pointer (some ⟨P, 0, none⟩), .int .i64 o, .int .i64 (B.length - 1 : Nat), .bool (!l)] W fun e w' => e = .returned (.bool r) ∧ Asked base gg n cap A B W w') := Lib.hid (fun o ho r hr W hcW haW => by
    obtain ⟨cs', h1', h2, h3⟩ := haW
    have C := wins_calls base P gg n cap A B _ _ hA hB hAl hBl (o + (B.length - 1) + 1) o (B.length - 1) (!l) cs' W (by omega) ho (by omega) hcW h1' h2
    rw [hr] at C
    exact C)
  have e1 : (A.length : Int) - 1 = ((A.length - 1 : Nat) : Int) := by omega
  have e2 : (B.length : Int) - 1 = ((B.length - 1 : Nat) : Int) := by omega
  have q1 : (A.length : Int) ≤ 1000 := by omega
  have q2 : (B.length : Int) ≤ 1000 := by omega
  have w1 : IntKind.i64.wrap ((A.length : Int) - 1) = ((A.length - 1 : Nat) : Int) := by rw [IntWalk.i64_in _ (by omega), e1]
  have w2 : IntKind.i64.wrap ((B.length : Int) - 1) = ((B.length - 1 : Nat) : Int) := by rw [IntWalk.i64_in _ (by omega), e2]
  have q3 : ((A.length - 1 : Nat) : Int) < A.length := by omega
  have hBL : Hid (1 ≤ B.length) := Lib.hid h1
  have HW0 : Hid (∀ W, Below w.heap.size w W → Asked base gg n cap A B w W) := Lib.hid (fun W hW => ⟨cs, hw, hr.below hW, Only.of_below hW⟩)
  have hI1 := Lib.hid i1
  have hI2 := Lib.hid i2
  obtain ⟨vo, hvo, hio⟩ : ∃ vo, (if l then v1 else v2) = vo ∧ IntsZ w 0 base vo (upL Lo) := by
    rw [← hLo.out, L1.out]
    cases l with
    | true => exact ⟨v1, rfl, hI1.out⟩
    | false => exact ⟨v2, rfl, hI2.out⟩
  obtain ⟨ao, co, rfl, hco⟩ := ints_len hio
  have HIW := Lib.hid hio
  have CO := Lib.hid fun W => (options_calls v1 v2 l W).mono fun e w' hp => (by rw [← hvo]; exact hp : e = .returned (.slice ao Lo.length co) ∧ Below W.heap.size W w')
  clear hvo hio
  clear h hw hr hA hB hx i1 i2 e1 e2
  go_enter Try.func61, Try.ntmps61
  have hbd : Below w.heap.size w w.drew := below_drewN (Below.refl _ _) 1
  have HBD := Lib.hid hbd
  clear hbd
  go_upto_region 2 with fail
  go_cut [21, 22, 23] (fun s21 s22 s23 wx => s21 = .slice ao Lo.length co ∧ s22 = .int .i64 Lo.length ∧ s23 = .int .i64 0 ∧ Below w.heap.size w wx)
  case first =>
    go_region_with (go_at_call 95; (with_reducible refine (CO.out _).mono ?_); rintro e wc ⟨rfl, hb⟩)
    all_goals
      go_wp2_with fail
      go_meet
      exact ⟨rfl, rfl, rfl, HBD.out.trans (hb.mono (Nat.le_refl _))⟩
  case rest =>
    obtain ⟨rfl, rfl, rfl, hb⟩ := hcut
    have HBC := Lib.hid hb
    have HC1 := Lib.hid (HC.out.below HBC.out)
    have HA0 := Lib.hid (HW0.out wc HBC.out)
    have HIO := Lib.hid (HIW.out.below HBC.out (by omega))
    have hsz0 := HBC.out.size
    have HO0 : Hid (OwnI wc w.heap.size (.slice none 0 0) (movesG A B Lo l 0)) := Lib.hid (OwnI.nil _ _)
    clear hb p1 p2 k0 k1 hLo L1 HC HW0 HBD hI1 hI2 HIW CO
    go_wp2
    go_loopw [5, 23] (fun q i wr => ∃ k : Nat, k ≤ Lo.length ∧ i = .int .i64 k ∧ Hid (OwnI wr w.heap.size q (movesG A B Lo l k)) ∧ Hid (Asked base gg n cap A B w wr) ∧ Hid (Ct wr base P gg n cap A B (.slice (some ⟨b, off, none⟩) A.length cc) (.slice a2 B.length b2)) ∧ Hid (IntsZ wr 0 base (.slice ao Lo.length co) (upL Lo)) ∧ w.heap.size ≤ wr.heap.size) (fun _ i _ => Lo.length - (intOf i).toNat)
    case atStart => exact ⟨0, Nat.zero_le _, rfl, HO0, HA0, HC1, HIO, hsz0⟩
    case round =>
      obtain ⟨k, hk, rfl, hown, ha, hc, hio, hsz⟩ := hrel
      clear HO0 HA0 HC1 HIO HBC hsz0
      by_cases hlt : k < Lo.length
      · obtain ⟨o, ho⟩ := lt_get hlt
        have hoi := HL1.out o (List.mem_of_getElem? ho)
        obtain ⟨b', off', rfl, hbb, hcell⟩ := ints_at hio.out ho
        obtain ⟨r, hr⟩ : ∃ r, winF A B o (B.length - 1) (!l) = r := ⟨_, rfl⟩
        have HS := Lib.hid (movesG_succ A B Lo l k o r ho hr)
        have C := Lib.hid (fun W (hW : Below wr.heap.size wr W) => CW.out o hoi r hr W (hc.out.below hW) (ha.out.below hW))
        have k1 := hc.out.c1
        clear ho hr
        have b0 : (0 : Int) ≤ k := by omega
        have b1' : (k : Int) < Lo.length := by omega
        cases r with
        | true =>
          have HS2 : Hid (movesG A B Lo l (k + 1) = movesG A B Lo l k) := Lib.hid (by rw [HS.out]; simp)
          clear HS
          go_wp2_with fail
          refine (C.out _ (Below.refl _ _)).mono ?_
          rintro e w2 ⟨rfl, ha2⟩
          have ho2 := ha2.only
          have A2 := Lib.hid (ha.out.trans ha2)
          have C2 := Lib.hid (hc.out.only ho2)
          have I2 := Lib.hid (hio.out.keep (ha2.same hbz (by omega)))
          have O2 : Hid (OwnI w2 w.heap.size u5 (movesG A B Lo l (k + 1))) := Lib.hid (by rw [HS2.out]; exact hown.out.only ho2 (fun g h e => by have := hown.out.lt g h; omega))
          have hs2 := ho2.size
          clear ha2 ho2 hown ha hc hio C HS2 k1
          go_wp2_with fail
          go_roundw
          case rel => exact ⟨k + 1, by omega, by go_num, O2, A2, C2, I2, by omega⟩
          case measure => simp [intOf]; omega
        | false =>
          have HS2 : Hid (movesG A B Lo l (k + 1) = movesG A B Lo l k ++ [(k : Int)]) := Lib.hid (by rw [HS.out]; simp)
          clear HS
          go_wp2_with fail
          refine (C.out _ (Below.refl _ _)).mono ?_
          rintro e w2 ⟨rfl, ha2⟩
          have ho2 := ha2.only
          have A2 := Lib.hid (ha.out.trans ha2)
          have C2 := Lib.hid (hc.out.only ho2)
          have I2 := Lib.hid (hio.out.keep (ha2.same hbz (by omega)))
          have O2 : Hid (OwnI w2 w.heap.size u5 (movesG A B Lo l k)) := Lib.hid (hown.out.only ho2 (fun g h e => by have := hown.out.lt g h; omega))
          have hs2 := ho2.size
          have hml := movesG_len A B Lo l k
          clear ha2 ho2 hown ha hc hio C k1
          go_wp2_with (at_builtin; refine wpList_append_own_at _ rfl _ _ 35 rfl w.heap.size 3 i0 (.int .i64 0) 1 8 Try.underlying35 hi0 hz0 hz1 hz2 rfl (by decide) _ _ _ rfl (World.ownsRow.alloc O2.out _) ⟨w2.heap.size, 0, none⟩ 1 1 [.int .i64 (k : Int)] rfl rfl ?e1 ?e2 ?e3 ?e4 ?e5 ?_)
          case e1 => exact World.news_of_block (heap_alloc_new _ _)
          case e2 => first | rfl | (intro u hu; simp at hu; subst hu; rfl)
          case e3 => unfold maxLen; omega
          case e4 => omega
          case e5 => simp; omega
          intro v6 w6 hown6 hgrow6 hnil6 hat6
          have O6 : Hid (OwnI w6 w.heap.size v6 (movesG A B Lo l (k + 1))) := Lib.hid (by rw [HS2.out]; unfold OwnI; rw [List.map_append, List.length_append]; exact hown6)
          have hfar : Only w2 w6 (fun b => w.heap.size ≤ b) := (Only.of_below (F := fun b => w.heap.size ≤ b) ((Below.refl _ _).alloc (Nat.le_refl _) _)).trans (Only.of_grown (F := fun b => w.heap.size ≤ b) hgrow6 (fun g e => (O2.out.lt g e).1)) (fun _ _ h => h)
          have A6 := Lib.hid (A2.out.far hfar hbz2 (Nat.le_refl _))
          have C6 := Lib.hid (C2.out.far hfar hPl hbz2 (by omega))
          have I6 := Lib.hid (I2.out.keep (hfar.sameIn (hi := base) (by omega) (fun b hb e => by omega)))
          have hs6 := hfar.size
          clear hown6 hgrow6 hnil6 hat6 hfar A2 C2 I2 O2 HS2
          go_wp2_with fail
          go_roundw
          case rel => exact ⟨k + 1, by omega, by go_num, O6, A6, C6, I6, by omega⟩
          case measure => simp [intOf]; omega
      · have hke : k = Lo.length := by omega
        subst hke
        rw [HM.out] at hown
        clear hc hio HM HL1 CW
        go_wp2_with fail
        go_ret
        exact ⟨_, rfl, hown.out, ha.out⟩
end

section
open Go.RowKit
set_option linter.unusedVariables false
set_option linter.unusedSimpArgs false

/-- a rewriting over a contest of a game with itself: its nodes' lists lie where the game's lie -/
structure Rs (w : World) (base R P gg n cap gn : Nat) (A : List Nd) (va : Value) : Prop where
  ct : Ct w base P gg n cap A A va va
  r0 : w.cell? ⟨R, 0, none⟩ = some (.pointer (some ⟨P, 0, none⟩))
  r1 : w.cell? ⟨R, 1, none⟩ = some (.slice (some ⟨gn, 0, none⟩) A.length A.length)
  nd : ∀ (i : Nat) (x : Nd), A[i]? = some x → ∃ v1 v2, w.cell? ⟨gn, i * 2, none⟩ = some v1 ∧ w.cell? ⟨gn, i * 2 + 1, none⟩ = some v2 ∧ IntsZ w 0 base v1 (upL x.1) ∧ IntsZ w 0 base v2 (upL x.2)
  hR : R ≠ gg
  hn : gn ≠ gg
  hl : gn < w.heap.size

theorem Rs.only {w w' : World} {base R P gg n cap gn : Nat} {A : List Nd} {va : Value} (h : Rs w base R P gg n cap gn A va) (ho : Only w w' (fun b => b = gg)) : Rs w' base R P gg n cap gn A va := by
  have h1 := h.ct.hg
  have h2 := h.ct.hgl
  have hR := h.hR
  have hn := h.hn
  have hl := h.hl
  have hs : SameIn 0 base w w' := ho.sameIn (by omega) (fun b hb e => by omega)
  refine ⟨h.ct.only ho, (ho.cell (block_of_cell h.r0) hR).trans h.r0, (ho.cell (block_of_cell h.r1) hR).trans h.r1, fun i x hx => ?_, hR, hn, Nat.lt_of_lt_of_le hl ho.size⟩
  obtain ⟨v1, v2, c1, c2, i1, i2⟩ := h.nd i x hx
  exact ⟨v1, v2, (ho.cell hl hn).trans c1, (ho.cell hl hn).trans c2, i1.keep hs, i2.keep hs⟩

theorem Rs.below {w w' : World} {base R P gg n cap gn : Nat} {A : List Nd} {va : Value} (h : Rs w base R P gg n cap gn A va) (hb : Below w.heap.size w w') : Rs w' base R P gg n cap gn A va := h.only (Only.of_below hb)

theorem Rs.far {w w' : World} {base R P gg n cap gn N : Nat} {A : List Nd} {va : Value} (h : Rs w base R P gg n cap gn A va) (ho : Only w w' (fun b => N ≤ b)) (hP : P < N) (hg : gg < N) (hR : R < N) (hn : gn < N) (hN : N ≤ w.heap.size) : Rs w' base R P gg n cap gn A va := by
  have h1 := h.ct.hg
  have h2 := h.ct.hgl
  have hs : SameIn 0 base w w' := ho.sameIn (by omega) (fun b hb e => by omega)
  refine ⟨h.ct.far ho hP hg hN, (ho.cell (block_of_cell h.r0) (by omega)).trans h.r0, (ho.cell (block_of_cell h.r1) (by omega)).trans h.r1, fun i x hx => ?_, h.hR, h.hn, Nat.lt_of_lt_of_le h.hl ho.size⟩
  obtain ⟨v1, v2, c1, c2, i1, i2⟩ := h.nd i x hx
  exact ⟨v1, v2, (ho.cell h.hl (by omega)).trans c1, (ho.cell h.hl (by omega)).trans c2, i1.keep hs, i2.keep hs⟩

/-- the first reply that makes an option reversible -/
def ansK (A : List Nd) (i o : Nat) (l : Bool) : Option Nat := (optsD A o (!l)).find? (fun r => !winF A A i r (!l))

theorem find_at {α : Type} (L : List α) (p : α → Bool) (k : Nat) (x : α) (hx : L[k]? = some x) (h : (L.take k).any p = false) (hp : p x = true) : L.find? p = some x := by
  induction L generalizing k with
  | nil => simp at hx
  | cons a t ih =>
    cases k with
    | zero => simp at hx; subst hx; simp [hp]
    | succ k =>
      simp only [List.getElem?_cons_succ] at hx
      simp only [List.take_succ_cons, List.any_cons, Bool.or_eq_false_iff] at h
      rw [List.find?_cons, h.1]
      exact ih k hx h.2

theorem find_none {α : Type} (L : List α) (p : α → Bool) (h : L.any p = false) : L.find? p = none := by
  rw [List.find?_eq_none]
  intro x hx hp
  have : L.any p = true := List.any_eq_true.2 ⟨x, hx, hp⟩
  rw [h] at this; cases this

set_option maxRecDepth 100000 in
set_option maxHeartbeats 4000000 in
theorem answer_calls (base R P gg n cap gn : Nat) (A : List Nd) (va : Value) (hA : Under A) (hAl : A.length ≤ 1000) (i o : Nat) (hi : i < A.length) (ho : o < A.length) (l : Bool) (res : Option Nat) (hres : Hid (ansK A i o l = res)) (w : World)
    (h : Rs w base R P gg n cap gn A va) (cs : List Int) (hw : Wn A A cs) (hr : RowV base gg n cap cs w) (h24 : (optsD A o (!l)).length ≤ 1000) :
    Calls Try.prog 117 #[.pointer (some ⟨R, 0, none⟩), .int .i64 i, .int .i64 o, .bool l] w fun e w' => e = .returned (.tuple #[.int .i64 ((res.getD 0 : Nat) : Int), .bool res.isSome]) ∧ Asked base gg n cap A A w w' := by
  obtain ⟨x, hx⟩ := lt_get ho
  obtain ⟨v1, v2, p1, p2, i1, i2⟩ := h.nd o x hx
  have hbz := h.ct.hg
  have hbz2 := h.ct.hgl
  have k0 := h.r0
  have k1 := h.r1
  obtain ⟨Lo, hLo⟩ : ∃ Lo, optsD A o (!l) = Lo := ⟨_, rfl⟩
  have HL1 : Hid (∀ y, y ∈ Lo → y < A.length) := Lib.hid (fun y hy => by rw [← hLo] at hy; have := optsD_lt hA hy; omega)
  have HF : Hid (Lo.find? (fun r => !winF A A i r (!l)) = res) := Lib.hid (by rw [← hLo]; exact hres.out)
  rw [hLo] at h24
  have L1 : optsD A o (!l) = if (!l) then x.1 else x.2 := by unfold optsD; rw [nodeD_at hx]
  obtain ⟨vo, hvo, hio⟩ : ∃ vo, (if (!l) then v1 else v2) = vo ∧ IntsZ w 0 base vo (upL Lo) := by
    rw [← hLo, L1]
    cases l with
    | true => exact ⟨v2, rfl, i2⟩
    | false => exact ⟨v1, rfl, i1⟩
  obtain ⟨ao, co, rfl, hco⟩ := ints_len hio
  have HIW := Lib.hid hio
  have CO := Lib.hid fun W => (options_calls v1 v2 (!l) W).mono fun e w' hp => (by rw [← hvo]; exact hp : e = .returned (.slice ao Lo.length co) ∧ Below W.heap.size W w')
  have CW : Hid (∀ (y : Nat), y < A.length → ∀ (r : Bool), winF A A i y (!l) = r → ∀ W, Rs W base R P gg n cap gn A va → Asked base gg n cap A A w W → Calls Try.prog 101 #[.pointer (some ⟨P, 0, none⟩), .int .i64 i, .int .i64 y, .bool (!l)] W fun e w' => e = .returned (.bool r) ∧ Asked base gg n cap A A W w') := Lib.hid (fun y hy r hr W hcW haW => by
    obtain ⟨cs', h1', h2, h3⟩ := haW
    have C := wins_calls base P gg n cap A A _ _ hA hA hAl hAl (i + y + 1) i y (!l) cs' W (by omega) hi hy hcW.ct h1' h2
    rw [hr] at C
    exact C)
  have HS0 := Lib.hid h
  have HW0 : Hid (∀ W, Below w.heap.size w W → Asked base gg n cap A A w W) := Lib.hid (fun W hW => ⟨cs, hw, hr.below hW, Only.of_below hW⟩)
  have q0 : (0 : Int) ≤ o := by omega
  have q1 : (o : Int) < A.length := by omega
  have q2 : (A.length : Int) ≤ 1000 := by omega
  clear h hw hr hx hvo hio i1 i2 L1 hLo hA
  go_enter Try.func117, Try.ntmps117
  go_wp2_with fail
  refine (CO.out _).mono ?_
  rintro e wc ⟨rfl, hb⟩
  have HC1 := Lib.hid (HS0.out.below hb)
  have HA0 := Lib.hid (HW0.out wc hb)
  have HIO := Lib.hid (HIW.out.below hb (by omega))
  clear hb p1 p2 k0 k1 HS0 HW0 HIW CO
  go_wp2
  go_loopw [23] (fun q wr => ∃ k : Nat, k ≤ Lo.length ∧ q = .int .i64 k ∧ Hid ((Lo.take k).any (fun r => !winF A A i r (!l)) = false) ∧ Hid (Asked base gg n cap A A w wr) ∧ Hid (Rs wr base R P gg n cap gn A va) ∧ Hid (IntsZ wr 0 base (.slice ao Lo.length co) (upL Lo))) (fun q _ => Lo.length - (intOf q).toNat)
  case atStart => exact ⟨0, Nat.zero_le _, rfl, Lib.hid (by simp), HA0, HC1, HIO⟩
  case round =>
    obtain ⟨k, hk, rfl, hany, ha, hc, hio⟩ := hrel
    clear HA0 HC1 HIO
    have hgl := ha.out.only.size
    by_cases hlt : k < Lo.length
    · obtain ⟨y, hy⟩ := lt_get hlt
      have hyi := HL1.out y (List.mem_of_getElem? hy)
      obtain ⟨b, off, rfl, hbb, hcell⟩ := ints_at hio.out hy
      obtain ⟨r, hr⟩ : ∃ r, winF A A i y (!l) = r := ⟨_, rfl⟩
      have C := Lib.hid (fun W (hW : Below wr.heap.size wr W) => CW.out y hyi r hr W (hc.out.below hW) (ha.out.below hW))
      have k0 := hc.out.r0
      have HY := Lib.hid hy
      have HRR := Lib.hid hr
      clear hy hr
      have b0 : (0 : Int) ≤ k := by omega
      have b1' : (k : Int) < Lo.length := by omega
      cases r with
      | false =>
        have RR : Hid (res = some y) := Lib.hid (by rw [← HF.out]; exact find_at Lo _ k y HY.out hany.out (by simp [HRR.out]))
        go_wp2_with fail
        refine (C.out _ (Below.refl _ _)).mono ?_
        rintro e w2 ⟨rfl, ha2⟩
        have HA2 := Lib.hid (ha.out.trans ha2)
        clear ha2
        go_wp2_with fail
        exact bodyPost_ret (v := .tuple #[.int .i64 (y : Int), .bool true]) (by simp [results, Try.results117, go_sem]) rfl ⟨by rw [RR.out]; rfl, HA2.out⟩
      | true =>
        have RR : Hid ((Lo.take (k + 1)).any (fun r => !winF A A i r (!l)) = false) := Lib.hid (any_take_false Lo _ k y HY.out hany.out (by simp [HRR.out]))
        go_wp2_with fail
        refine (C.out _ (Below.refl _ _)).mono ?_
        rintro e w2 ⟨rfl, ha2⟩
        have HA2 := Lib.hid (ha.out.trans ha2)
        have HC2 := Lib.hid (hc.out.only ha2.only)
        have HI2 := Lib.hid (hio.out.keep (ha2.same hbz (by omega)))
        clear ha2
        go_wp2_with fail
        go_roundw
        case rel => exact ⟨k + 1, by omega, by go_num, RR, HA2, HC2, HI2⟩
        case measure => simp [intOf]; omega
    · have RR : Hid (res = none) := Lib.hid (by
        rw [← HF.out]
        have := hany.out
        rw [List.take_of_length_le (by omega)] at this
        exact find_none Lo _ this)
      clear hany hio HL1
      have HA2 := Lib.hid ha.out
      clear ha hc CW
      go_wp2_with fail
      exact bodyPost_ret (v := .tuple #[.int .i64 0, .bool false]) (by simp [results, Try.results117, go_sem]) rfl ⟨by rw [RR.out]; rfl, HA2.out⟩
end

section
open Go.RowKit
set_option linter.unusedVariables false
set_option linter.unusedSimpArgs false

/-- copy of elements of two cells over a whole row -/
theorem run_copy_two {P : Program} (w : World) (dT sT ty elem : TypeId) (hu : P.underlying dT = some (.slice elem)) (hsz : (P.info? elem).map (·.size) = some 2)
    (g n dCap : Nat) (ad : Addr) (sCap : Nat) (cur : Array Value) (t : TypeId) (hg : w.heap[g]? = some (.cells cur t (0, 0))) (cs : List Value) (hn : cs.length = n * 2)
    (hsrc : ∀ j v, cs[j]? = some v → w.cell? (ad.add j) = some v) (hfit : cs.length = cur.size) (h1 : ∀ v ∈ cs, v.oneCell' = true) :
    (Builtin.copy_ #[dT, sT] ty #[.slice (some ⟨g, 0, none⟩) n dCap, .slice (some ad) n sCap]).run P w = .ok (goInt n) (w.setRow g cs.toArray) := by
  have hl := run_loadCells_list (P := P) w ad cs hsrc
  have hst := run_storeCells_at P g 0 t cs 0 cur w hg (by omega) h1
  have he : (cur.toList.take (0 + 0) ++ cs ++ cur.toList.drop (0 + 0 + cs.length)).toArray = cs.toArray := by
    have : cur.toList.drop (0 + 0 + cs.length) = [] := List.drop_eq_nil_of_le (by simp; omega)
    rw [this]; simp
  rw [he] at hst
  cases hq : P.info? elem with
  | none => simp [hq] at hsz
  | some i =>
    have hi : i.size = 2 := by simpa [hq] using hsz
    simp [Builtin.copy_, run_underlying hu, Builtin.lenOf, Builtin.firstCells, sizeOf, typeInfo, hq, hi, ← hn, hl, hst]

theorem top_calls (R : Nat) (v : Value) (n c : Nat) (ao : Option Addr) (w : World) (h : w.cell? ⟨R, 1, none⟩ = some (.slice ao n c)) (h0 : 0 < n) (hn : n ≤ 1000) :
    Calls Try.prog 81 #[.pointer (some ⟨R, 0, none⟩)] w fun e w' => e = .returned (.int .i64 (n - 1 : Nat)) ∧ w' = w := by
  have w1 : IntKind.i64.wrap ((n : Int) - 1) = ((n - 1 : Nat) : Int) := by rw [IntWalk.i64_in _ (by omega)]; omega
  go_enter Try.func81, Try.ntmps81
  go_wp2
  go_ret
  exact ⟨rfl, rfl⟩

/-- the places of the options that are reversible, among the first -/
def revG (A : List Nd) (Lo : List Nat) (i : Nat) (l : Bool) (k : Nat) : List Int := ((List.range k).filter (fun p => (ansK A i (Lo.getD p 0) l).isSome)).map (fun p : Nat => (p : Int))

theorem revG_succ (A : List Nd) (Lo : List Nat) (i : Nat) (l : Bool) (k o : Nat) (r : Option Nat) (ho : Lo[k]? = some o) (hr : ansK A i o l = r) : revG A Lo i l (k + 1) = revG A Lo i l k ++ if r.isSome then [(k : Int)] else [] := by
  unfold revG
  have e : Lo.getD k 0 = o := by rw [List.getD_eq_getElem?_getD, ho]; rfl
  rw [List.range_succ, List.filter_append, List.map_append]
  congr 1
  rw [List.filter_cons, List.filter_nil, e, hr]
  cases r <;> rfl

theorem revG_len (A : List Nd) (Lo : List Nat) (i : Nat) (l : Bool) (k : Nat) : (revG A Lo i l k).length ≤ k := by
  unfold revG
  rw [List.length_map]
  exact Nat.le_trans (List.length_filter_le _ _) (by simp)

set_option maxRecDepth 100000 in
set_option maxHeartbeats 4000000 in
theorem reversible_calls (base R P gg n cap gn : Nat) (A : List Nd) (va : Value) (hA : Under A) (hAl : A.length ≤ 1000) (i : Nat) (hi : i < A.length) (l : Bool) (Lo : List Nat) (ms : List Int) (hLo : Hid (optsD A i l = Lo)) (hL24 : Lo.length ≤ 1000)
    (h24 : ∀ o, o < A.length → (optsD A o (!l)).length ≤ 1000) (HM : Hid (revG A Lo i l Lo.length = ms)) (w : World)
    (h : Rs w base R P gg n cap gn A va) (cs : List Int) (hw : Wn A A cs) (hr : RowV base gg n cap cs w) :
    Calls Try.prog 83 #[.pointer (some ⟨R, 0, none⟩), .int .i64 i, .bool l] w fun e w' => ∃ v, e = .returned v ∧ OwnI w' w.heap.size v ms ∧ Asked base gg n cap A A w w' := by
  obtain ⟨i0, hi0, hz0, hz1, hz2⟩ := info_parts infoIntA
  obtain ⟨x, hx⟩ := lt_get hi
  obtain ⟨v1, v2, p1, p2, i1, i2⟩ := h.nd i x hx
  have hbz := h.ct.hg
  have hbz2 := h.ct.hgl
  have k0 := h.r0
  have k1 := h.r1
  have hPl := block_of_cell h.ct.c0
  have hRl := block_of_cell k0
  have hnl := h.hl
  have L1 : optsD A i l = if l then x.1 else x.2 := by unfold optsD; rw [nodeD_at hx]
  have HL1 : Hid (∀ o, o ∈ Lo → o < A.length) := Lib.hid (fun o ho => by rw [← hLo.out] at ho; have := optsD_lt hA ho; omega)
  obtain ⟨vo, hvo, hio⟩ : ∃ vo, (if l then v1 else v2) = vo ∧ IntsZ w 0 base vo (upL Lo) := by
    rw [← hLo.out, L1]
    cases l with
    | true => exact ⟨v1, rfl, i1⟩
    | false => exact ⟨v2, rfl, i2⟩
  obtain ⟨ao, co, rfl, hco⟩ := ints_len hio
  have HIW := Lib.hid hio
  have CO := Lib.hid fun W => (options_calls v1 v2 l W).mono fun e w' hp => (by rw [← hvo]; exact hp : e = .returned (.slice ao Lo.length co) ∧ Below W.heap.size W w')
  have CW : Hid (∀ (o : Nat), o < A.length → ∀ (r : Option Nat), ansK A i o l = r → ∀ W, Rs W base R P gg n cap gn A va → Asked base gg n cap A A w W → Calls Try.prog 117 #[.pointer (some ⟨R, 0, none⟩), .int .i64 i, .int .i64 o, .bool l] W fun e w' => e = .returned (.tuple #[.int .i64 ((r.getD 0 : Nat) : Int), .bool r.isSome]) ∧ Asked base gg n cap A A W w') := Lib.hid (fun o ho r hr W hcW haW => by
    obtain ⟨cs', h1', h2, h3⟩ := haW
    exact answer_calls base R P gg n cap gn A va hA hAl i o hi ho l r (Lib.hid hr) W hcW cs' h1' h2 (h24 o ho))
  have HS0 := Lib.hid h
  have HW0 : Hid (∀ W, Below w.heap.size w W → Asked base gg n cap A A w W) := Lib.hid (fun W hW => ⟨cs, hw, hr.below hW, Only.of_below hW⟩)
  have q0 : (0 : Int) ≤ i := by omega
  have q1 : (i : Int) < A.length := by omega
  have q2 : (A.length : Int) ≤ 1000 := by omega
  clear h hw hr hx hvo hio i1 i2 L1 hLo hA h24
  go_enter Try.func83, Try.ntmps83
  go_wp2_with fail
  refine (CO.out _).mono ?_
  rintro e wc ⟨rfl, hb⟩
  have HC1 := Lib.hid (HS0.out.below hb)
  have HA0 := Lib.hid (HW0.out wc hb)
  have HIO := Lib.hid (HIW.out.below hb (by omega))
  have hsz0 := hb.size
  have HO0 : Hid (OwnI wc w.heap.size (.slice none 0 0) (revG A Lo i l 0)) := Lib.hid (OwnI.nil _ _)
  clear hb p1 p2 k0 k1 HS0 HW0 HIW CO
  go_wp2
  go_loopw [7, 22] (fun q j wr => ∃ k : Nat, k ≤ Lo.length ∧ j = .int .i64 k ∧ Hid (OwnI wr w.heap.size q (revG A Lo i l k)) ∧ Hid (Asked base gg n cap A A w wr) ∧ Hid (Rs wr base R P gg n cap gn A va) ∧ Hid (IntsZ wr 0 base (.slice ao Lo.length co) (upL Lo)) ∧ w.heap.size ≤ wr.heap.size) (fun _ i _ => Lo.length - (intOf i).toNat)
  case atStart => exact ⟨0, Nat.zero_le _, rfl, HO0, HA0, HC1, HIO, hsz0⟩
  case round =>
    obtain ⟨k, hk, rfl, hown, ha, hc, hio, hsz⟩ := hrel
    clear HO0 HA0 HC1 HIO hsz0
    by_cases hlt : k < Lo.length
    · obtain ⟨o, ho⟩ := lt_get hlt
      have hoi := HL1.out o (List.mem_of_getElem? ho)
      obtain ⟨b', off', rfl, hbb, hcell⟩ := ints_at hio.out ho
      obtain ⟨r, hr⟩ : ∃ r, ansK A i o l = r := ⟨_, rfl⟩
      have HS := Lib.hid (revG_succ A Lo i l k o r ho hr)
      have C := Lib.hid (fun W (hW : Below wr.heap.size wr W) => CW.out o hoi r hr W (hc.out.below hW) (ha.out.below hW))
      clear ho hr
      have b0 : (0 : Int) ≤ k := by omega
      have b1' : (k : Int) < Lo.length := by omega
      cases r with
      | none =>
        have HS2 : Hid (revG A Lo i l (k + 1) = revG A Lo i l k) := Lib.hid (by rw [HS.out]; simp)
        clear HS
        go_wp2_with fail
        refine (C.out _ (Below.refl _ _)).mono ?_
        rintro e w2 ⟨rfl, ha2⟩
        have ho2 := ha2.only
        have A2 := Lib.hid (ha.out.trans ha2)
        have C2 := Lib.hid (hc.out.only ho2)
        have I2 := Lib.hid (hio.out.keep (ha2.same hbz (by omega)))
        have O2 : Hid (OwnI w2 w.heap.size u7 (revG A Lo i l (k + 1))) := Lib.hid (by rw [HS2.out]; exact hown.out.only ho2 (fun g h e => by have := hown.out.lt g h; omega))
        have hs2 := ho2.size
        clear ha2 ho2 hown ha hc hio C HS2
        go_wp2_with fail
        go_roundw
        case rel => exact ⟨k + 1, by omega, by go_num, O2, A2, C2, I2, by omega⟩
        case measure => simp [intOf]; omega
      | some y =>
        have HS2 : Hid (revG A Lo i l (k + 1) = revG A Lo i l k ++ [(k : Int)]) := Lib.hid (by rw [HS.out]; simp)
        clear HS
        go_wp2_with fail
        refine (C.out _ (Below.refl _ _)).mono ?_
        rintro e w2 ⟨rfl, ha2⟩
        have ho2 := ha2.only
        have A2 := Lib.hid (ha.out.trans ha2)
        have C2 := Lib.hid (hc.out.only ho2)
        have I2 := Lib.hid (hio.out.keep (ha2.same hbz (by omega)))
        have O2 : Hid (OwnI w2 w.heap.size u7 (revG A Lo i l k)) := Lib.hid (hown.out.only ho2 (fun g h e => by have := hown.out.lt g h; omega))
        have hs2 := ho2.size
        have hml := revG_len A Lo i l k
        clear ha2 ho2 hown ha hc hio C
        go_wp2_with (at_builtin; refine wpList_append_own_at _ rfl _ _ 35 rfl w.heap.size 3 i0 (.int .i64 0) 1 8 Try.underlying35 hi0 hz0 hz1 hz2 rfl (by decide) _ _ _ rfl (World.ownsRow.alloc O2.out _) ⟨w2.heap.size, 0, none⟩ 1 1 [.int .i64 (k : Int)] rfl rfl ?e1 ?e2 ?e3 ?e4 ?e5 ?_)
        case e1 => exact World.news_of_block (heap_alloc_new _ _)
        case e2 => first | rfl | (intro u hu; simp at hu; subst hu; rfl)
        case e3 => unfold maxLen; omega
        case e4 => omega
        case e5 => simp; omega
        intro v6 w6 hown6 hgrow6 hnil6 hat6
        have O6 : Hid (OwnI w6 w.heap.size v6 (revG A Lo i l (k + 1))) := Lib.hid (by rw [HS2.out]; unfold OwnI; rw [List.map_append, List.length_append]; exact hown6)
        have hfar : Only w2 w6 (fun b => w.heap.size ≤ b) := (Only.of_below (F := fun b => w.heap.size ≤ b) ((Below.refl _ _).alloc (Nat.le_refl _) _)).trans (Only.of_grown (F := fun b => w.heap.size ≤ b) hgrow6 (fun g e => (O2.out.lt g e).1)) (fun _ _ h => h)
        have A6 := Lib.hid (A2.out.far hfar hbz2 (Nat.le_refl _))
        have C6 := Lib.hid (C2.out.far hfar hPl hbz2 hRl hnl (by omega))
        have I6 := Lib.hid (I2.out.keep (hfar.sameIn (hi := base) (by omega) (fun b hb e => by omega)))
        have hs6 := hfar.size
        clear hown6 hgrow6 hnil6 hat6 hfar A2 C2 I2 O2 HS2
        go_wp2_with fail
        go_roundw
        case rel => exact ⟨k + 1, by omega, by go_num, O6, A6, C6, I6, by omega⟩
        case measure => simp [intOf]; omega
    · have hke : k = Lo.length := by omega
      subst hke
      rw [HM.out] at hown
      clear hc hio HM HL1 CW
      go_wp2_with fail
      go_ret
      exact ⟨_, rfl, hown.out, ha.out⟩
end

section
open Go.RowKit
set_option linter.unusedVariables false
set_option linter.unusedSimpArgs false

theorem rewriting_bad (va : Value) (f : List Nz) (hg : goodB f = false) (w : World) (lo hi : Nat) (hh : hi ≤ w.heap.size) (hva : NodesZ w lo hi va f) :
    Calls Try.prog 79 #[.agg #[va]] w fun e w' => e = .returned (.tuple #[.pointer none, .bool false]) ∧ Below w.heap.size w w' := by
  have HB0 := Lib.hid fun o => show Below w.heap.size w (w.alloc o) from ((Below.refl _ _).alloc (Nat.le_refl _) _)
  have C := Lib.hid fun (W : World) (hW : Below w.heap.size w W) => contest_bad va va f f false false (Lib.hid hg) (Lib.hid hg) rfl W lo hi lo hi (Nat.le_trans hh hW.size) (Nat.le_trans hh hW.size) (hva.below hW hh) (hva.below hW hh)
  clear hva hg
  go_enter Try.func79, Try.ntmps79
  go_wp2_with fail
  refine (C.out _ (HB0.out _)).mono ?_
  rintro e w4 ⟨rfl, hb4⟩
  have HB4 := Lib.hid ((HB0.out _).trans (hb4.mono (by simp)))
  clear hb4 C
  go_wp2_with fail
  exact bodyPost_ret (v := .tuple #[.pointer none, .bool false]) (by simp [results, Try.results79, go_sem]) rfl ⟨rfl, HB4.out⟩

/-- a rewriting that is there, from a world on -/
def Rew (w w' : World) (R : Nat) (A : List Nd) (va : Value) : Prop := ∃ base P gg n cap gn cs, Rs w' base R P gg n cap gn A va ∧ Wn A A cs ∧ RowV base gg n cap cs w' ∧ w.heap.size ≤ base ∧ Below w.heap.size w w'

theorem add_addr (b off j : Nat) : (⟨b, off, none⟩ : Addr).add j = ⟨b, off + j, none⟩ := by unfold Addr.add; split <;> simp_all

theorem intsZ_one {w : World} {lo hi : Nat} {v : Value} {l : List Int} (h : IntsZ w lo hi v l) : v.oneCell' = true := by
  obtain ⟨a, c, rfl, _⟩ := h
  cases a <;> rfl

/-- the cells of a row of nodes -/
theorem node_cells {w : World} {lo hi : Nat} {v : Value} {A : List Nd} (h : NodesZ w lo hi v (A.map upN)) (h0 : 0 < A.length) :
    ∃ (b off c : Nat) (cs : List Value), v = .slice (some ⟨b, off, none⟩) A.length c ∧ b < hi ∧ cs.length = A.length * 2 ∧ (∀ j u, cs[j]? = some u → w.cell? ⟨b, off + j, none⟩ = some u) ∧ (∀ (u : Value), u ∈ cs → u.oneCell' = true) ∧
      (∀ (i : Nat) (x : Nd), A[i]? = some x → ∃ v1 v2, cs[i * 2]? = some v1 ∧ cs[i * 2 + 1]? = some v2 ∧ IntsZ w lo hi v1 (upL x.1) ∧ IntsZ w lo hi v2 (upL x.2)) := by
  obtain ⟨x0, hx0⟩ := lt_get h0
  obtain ⟨b, off, c, _, _, e, hb, _, _, _, _⟩ := nodes_at h hx0
  have key : ∀ (i : Nat) (x : Nd), A[i]? = some x → ∃ v1 v2, w.cell? ⟨b, off + i * 2, none⟩ = some v1 ∧ w.cell? ⟨b, off + i * 2 + 1, none⟩ = some v2 ∧ IntsZ w lo hi v1 (upL x.1) ∧ IntsZ w lo hi v2 (upL x.2) := fun i x hx => by
    obtain ⟨b', off', c', v1, v2, e', _, c1, c2, i1, i2⟩ := nodes_at h hx
    rw [e] at e'
    injection e' with e1 _ _
    injection e1 with e1
    injection e1 with e1 e2 _
    subst e1 e2
    exact ⟨v1, v2, c1, c2, i1, i2⟩
  obtain ⟨cs, hcs⟩ : ∃ cs : List Value, cs = (List.range (A.length * 2)).map (fun j => (w.cell? ⟨b, off + j, none⟩).getD undef) := ⟨_, rfl⟩
  have hat : ∀ j, j < A.length * 2 → ∃ u, w.cell? ⟨b, off + j, none⟩ = some u ∧ u.oneCell' = true := fun j hj => by
    obtain ⟨x, hx⟩ := lt_get (l := A) (i := j / 2) (by omega)
    obtain ⟨v1, v2, c1, c2, i1, i2⟩ := key _ x hx
    rcases Nat.mod_two_eq_zero_or_one j with h | h
    · have e1 : off + j / 2 * 2 = off + j := by omega
      rw [e1] at c1
      exact ⟨v1, c1, intsZ_one i1⟩
    · have e1 : off + j / 2 * 2 + 1 = off + j := by omega
      rw [e1] at c2
      exact ⟨v2, c2, intsZ_one i2⟩
  have hget : ∀ j, j < A.length * 2 → cs[j]? = w.cell? ⟨b, off + j, none⟩ := fun j hj => by
    obtain ⟨u, hu, _⟩ := hat j hj
    rw [hcs, List.getElem?_map, List.getElem?_range hj]
    simp only [Option.map_some]
    rw [hu]; rfl
  have hlen : cs.length = A.length * 2 := by rw [hcs]; simp
  refine ⟨b, off, c, cs, e, hb, hlen, fun j u hj => ?_, fun u hu => ?_, fun i x hx => ?_⟩
  · have := get_lt hj
    rw [← hget j (by omega)]; exact hj
  · obtain ⟨j, hj⟩ := List.mem_iff_getElem?.1 hu
    have hjl := get_lt hj
    obtain ⟨u', hu', h1⟩ := hat j (by omega)
    rw [hget j (by omega), hu'] at hj
    injection hj with hj
    subst hj
    exact h1
  · have hi := get_lt hx
    obtain ⟨v1, v2, c1, c2, i1, i2⟩ := key i x hx
    exact ⟨v1, v2, by rw [hget _ (by omega)]; exact c1, by rw [hget _ (by omega), ← Nat.add_assoc]; exact c2, i1, i2⟩

set_option maxRecDepth 100000 in
set_option maxHeartbeats 4000000 in
theorem rewriting_good (va : Value) (f : List Nz) (hg : goodB f = true) (w : World) (lo hi : Nat) (hh : hi ≤ w.heap.size) (hva : NodesZ w lo hi va f) :
    Calls Try.prog 79 #[.agg #[va]] w fun e w' => ∃ R, e = .returned (.tuple #[.pointer (some ⟨R, 0, none⟩), .bool true]) ∧ Rew w w' R (f.map downN) va := by
  obtain ⟨iN, hiN, hzN0, hzN1, hzN2⟩ := info_parts infoNodeA
  obtain ⟨hf1, hf2, _⟩ := (goodB_iff f).1 hg
  have HB0 := Lib.hid fun o => show Below w.heap.size w (w.alloc o) from ((Below.refl _ _).alloc (Nat.le_refl _) _)
  have C := Lib.hid fun (W : World) (hW : Below w.heap.size w W) => contest_good va va f f hg hg W lo hi lo hi (Nat.le_trans hh hW.size) (Nat.le_trans hh hW.size) (hva.below hW hh) (hva.below hW hh)
  obtain ⟨ao, c0, rfl⟩ : ∃ ao c, va = .slice ao f.length c := by obtain ⟨ao, c, e, _⟩ := hva; exact ⟨ao, c, e⟩
  have hpos := hf1.1
  have hfl := hf1.2.1
  clear hva hg hf1 hf2
  go_enter Try.func79, Try.ntmps79
  go_wp2_with fail
  refine (C.out _ (HB0.out _)).mono ?_
  rintro e w4 ⟨P, rfl, hH⟩
  have hbH := held_below hH
  have k0 : w4.cell? ⟨w.heap.size, 0, none⟩ = some (.slice ao f.length c0) := (bcell hbH _ _ (by simp)).trans (by go_simp)
  have HH := Lib.hid hH
  have HB4 := Lib.hid ((HB0.out _).trans (hbH.mono (by simp)))
  have hs4 : w.heap.size + 1 ≤ w4.heap.size := by have := hbH.size; simpa using this
  clear hH hbH C
  go_wp2_with (at_make; refine wpList_make_full _ rfl _ _ 26 rfl w4.heap.size 67 iN (.agg #[.slice none 0 0, .slice none 0 0]) 2 Try.underlying26 hiN hzN0 hzN1 _ _ _ _ f.length rfl rfl (by first | rfl | (simp; done)) (by first | rfl | (simp; done)) (by rw [hzN2]; omega) (by unfold maxLen; omega) (Nat.le_refl _) ?_; intro w5 hown hgr; have hb45 : Below w4.heap.size w4 w5 := (Below.refl _ _).grown hgr (Nat.le_refl _) (fun k hk => by cases hk); have k5 := (bcell hb45 _ _ (block_of_cell k0)).trans k0; have hs5 := (World.ownsRow.lt hown _ rfl).2)
  obtain ⟨gg, nn, cap, vs, hc, hwn, hrow, hbh⟩ := HH.out
  have nA : (f.map downN).length = f.length := by simp
  obtain ⟨bs, off, cc, cs, eva, hbs, hcl, hcc, hco, hcn⟩ := node_cells hc.na (by rw [nA]; exact hpos)
  rw [nA] at eva hcl
  obtain ⟨q1, q2, q3⟩ := slice_inj eva
  clear q2
  subst q1 q3
  obtain ⟨cur, hcur, hcz⟩ : ∃ cur, w5.heap[w4.heap.size]? = some (.cells cur 67 (0, 0)) ∧ cur.size = f.length * 2 := by
    rcases hown.2 with ⟨h, _⟩ | ⟨g, cp, cur, e, _, hh, _, _, hs, _⟩
    · cases h
    · injection e with e1 _ e3
      injection e1 with e1
      injection e1 with e1 _ _
      subst e1 e3
      exact ⟨cur, hh, hs⟩
  have HC := Lib.hid hc
  have HWN := Lib.hid hwn
  have HRW := Lib.hid hrow
  have HCN := Lib.hid hcn
  have HCC := Lib.hid (fun (W : World) (hb : Below w4.heap.size w4 W) j u (hj : cs[j]? = some u) => (bcell hb bs (off + j) (by have := hc.hg; have := hc.hgl; omega)).trans (hcc j u hj))
  have hgg := hc.hgl
  have hgb := hc.hg
  have HB6 : Hid (Below w4.heap.size w4 (w5.alloc (.cells #[.pointer (some ⟨P, 0, none⟩), .slice (some ⟨w4.heap.size, 0, none⟩) f.length f.length] 120))) := Lib.hid (hb45.alloc (by omega) _)
  have H6 : (w5.alloc (.cells #[.pointer (some ⟨P, 0, none⟩), .slice (some ⟨w4.heap.size, 0, none⟩) f.length f.length] 120)).heap[w4.heap.size]? = some (.cells cur 67 (0, 0)) := by
    have e1 : (w5.alloc (.cells #[.pointer (some ⟨P, 0, none⟩), .slice (some ⟨w4.heap.size, 0, none⟩) f.length f.length] 120)).heap = w5.heap.push (.cells #[.pointer (some ⟨P, 0, none⟩), .slice (some ⟨w4.heap.size, 0, none⟩) f.length f.length] 120) := rfl
    rw [e1, Array.getElem?_push, if_neg (by omega)]
    exact hcur
  have k0' : (w5.alloc (.cells #[.pointer (some ⟨P, 0, none⟩), .slice (some ⟨w4.heap.size, 0, none⟩) f.length f.length] 120)).cell? ⟨w5.heap.size, 0, none⟩ = some (.pointer (some ⟨P, 0, none⟩)) := by go_simp
  have k1' : (w5.alloc (.cells #[.pointer (some ⟨P, 0, none⟩), .slice (some ⟨w4.heap.size, 0, none⟩) f.length f.length] 120)).cell? ⟨w5.heap.size, 1, none⟩ = some (.slice (some ⟨w4.heap.size, 0, none⟩) f.length f.length) := by go_simp
  have k5' : (w5.alloc (.cells #[.pointer (some ⟨P, 0, none⟩), .slice (some ⟨w4.heap.size, 0, none⟩) f.length f.length] 120)).cell? ⟨w.heap.size, 0, none⟩ = some (.slice (some ⟨bs, off, none⟩) f.length c0) := by rw [World.cell?_alloc_lt _ _ _ (block_of_cell k5)]; exact k5
  clear hc hwn hrow hbh hcc hcn hown hgr hb45 k0 HB0 hcur eva
  generalize (w5.alloc (.cells #[.pointer (some ⟨P, 0, none⟩), .slice (some ⟨w4.heap.size, 0, none⟩) f.length f.length] 120)) = W0 at HB6 H6 k0' k1' k5' ⊢
  go_still_tail 6, (by kernel_rfl)
  repeat still_step
  change wpList _ _ _ _ _ W0.drew
  have HB6 : Hid (Below w4.heap.size w4 W0.drew) := Lib.hid (below_drewN HB6.out 1)
  have H6 : W0.drew.heap[w4.heap.size]? = some (.cells cur 67 (0, 0)) := H6
  have k0' : W0.drew.cell? ⟨w5.heap.size, 0, none⟩ = some (.pointer (some ⟨P, 0, none⟩)) := k0'
  have k1' : W0.drew.cell? ⟨w5.heap.size, 1, none⟩ = some (.slice (some ⟨w4.heap.size, 0, none⟩) f.length f.length) := k1'
  generalize W0.drew = W6 at HB6 H6 k0' k1' ⊢
  have HR : Hid (Rew w (W6.setRow w4.heap.size cs.toArray) w5.heap.size (f.map downN) (.slice (some ⟨bs, off, none⟩) f.length c0)) := Lib.hid (by
    have hb7 : Below w4.heap.size w4 (W6.setRow w4.heap.size cs.toArray) := below_setRow HB6.out (Nat.le_refl _) _
    have hz6 := HB6.out.size
    have hl6 : w4.heap.size < W6.heap.size := by
      have := block_of_cell k0'
      omega
    have hsm : ∀ v l, IntsZ w4 0 (w.alloc (.cells #[.slice (some ⟨bs, off, none⟩) f.length c0] 28)).heap.size v l → IntsZ (W6.setRow w4.heap.size cs.toArray) 0 (w.alloc (.cells #[.slice (some ⟨bs, off, none⟩) f.length c0] 28)).heap.size v l := fun v l h => h.below hb7 (by simp; omega)
    refine ⟨_, P, gg, nn, cap, w4.heap.size, vs, ⟨HC.out.below hb7, ?_, ?_, fun i x hx => ?_, by omega, by omega, by rw [setRow_size]; exact hl6⟩, HWN.out, HRW.out.below hb7, by simp, HB4.out.trans (hb7.mono HB4.out.size)⟩
    · rw [cell_setRow_other _ _ _ _ (by show w5.heap.size ≠ w4.heap.size; omega)]; exact k0'
    · rw [cell_setRow_other _ _ _ _ (by show w5.heap.size ≠ w4.heap.size; omega), nA]; exact k1'
    · obtain ⟨v1, v2, c1, c2, i1, i2⟩ := HCN.out i x hx
      refine ⟨v1, v2, ?_, ?_, hsm _ _ i1, hsm _ _ i2⟩
      · rw [cell_setRow_same _ _ _ _ _ _ _ H6]; simpa using c1
      · rw [cell_setRow_same _ _ _ _ _ _ _ H6]; simpa using c2)
  have HSRC : ∀ j u, cs[j]? = some u → W6.cell? ((⟨bs, off, none⟩ : Addr).add j) = some u := fun j u hj => by rw [add_addr]; exact HCC.out W6 HB6.out j u hj
  have nI : Hid (cs.length = f.length * 2) := Lib.hid hcl
  have nZ : Hid (cs.length = cur.size) := Lib.hid (by omega)
  clear hcl hcz HCC HC HWN HRW HCN nA k0' k1'
  have hrun := run_copy_two (P := Try.prog) W6 26 26 3 67 Try.underlying26 (by rw [hiN]; simp [hzN1]) w4.heap.size f.length f.length ⟨bs, off, none⟩ c0 cur _ H6 cs nI.out HSRC nZ.out hco
  clear HSRC hco nI nZ H6 HB6
  go_wp2
  exact bodyPost_ret (v := .tuple #[.pointer (some ⟨w5.heap.size, 0, none⟩), .bool true]) (by simp [results, Try.results79, go_sem]) rfl ⟨_, rfl, HR.out⟩
end

section
open Go.RowKit
set_option linter.unusedVariables false
set_option linter.unusedSimpArgs false

/-- a rewriting that is there, its order's memory below a block -/
def RewN (N : Nat) (w w' : World) (R : Nat) (A : List Nd) (va : Value) : Prop := ∃ base P gg n cap gn cs, Rs w' base R P gg n cap gn A va ∧ Wn A A cs ∧ RowV base gg n cap cs w' ∧ w.heap.size ≤ base ∧ Below w.heap.size w w' ∧ gg < N

theorem Rew.toN {w w' : World} {R : Nat} {A : List Nd} {va : Value} (h : Rew w w' R A va) : RewN w'.heap.size w w' R A va := by
  obtain ⟨base, P, gg, n, cap, gn, cs, h1, h2, h3, h4, h5⟩ := h
  exact ⟨base, P, gg, n, cap, gn, cs, h1, h2, h3, h4, h5, h1.ct.hgl⟩

theorem RewN.bel {N : Nat} {w w' : World} {R : Nat} {A : List Nd} {va : Value} (h : RewN N w w' R A va) : Below w.heap.size w w' := by
  obtain ⟨base, P, gg, n, cap, gn, cs, h1, h2, h3, h4, h5, h6⟩ := h
  exact h5

theorem RewN.below {N : Nat} {w w1 w2 : World} {R : Nat} {A : List Nd} {va : Value} (h : RewN N w w1 R A va) (hb : Below w1.heap.size w1 w2) : RewN N w w2 R A va := by
  obtain ⟨base, P, gg, n, cap, gn, cs, h1, h2, h3, h4, h5, h6⟩ := h
  exact ⟨base, P, gg, n, cap, gn, cs, h1.below hb, h2, h3.below hb, h4, h5.trans (hb.mono h5.size), h6⟩

theorem RewN.asked {N : Nat} {w w1 w2 : World} {base R P gg n cap gn : Nat} {A : List Nd} {va : Value} (h1 : Rs w1 base R P gg n cap gn A va) (h4 : w.heap.size ≤ base) (h5 : Below w.heap.size w w1) (h6 : gg < N) (ha : Asked base gg n cap A A w1 w2) :
    RewN N w w2 R A va ∧ Only w1 w2 (fun b => b < N) := by
  have ho := ha.only
  have h1' := h1.only ho
  obtain ⟨cs', k1, k2, k3⟩ := ha
  have hg := h1.ct.hg
  exact ⟨⟨base, P, gg, n, cap, gn, cs', h1', k1, k2, h4, h5.trans (ho.below h5.size (fun b e => by omega)), h6⟩, ho.mono (fun _ _ e => by omega)⟩

theorem RewN.top {N : Nat} {w w1 : World} {R : Nat} {A : List Nd} {va : Value} (h : RewN N w w1 R A va) (h0 : 0 < A.length) (hl : A.length ≤ 1000) :
    Calls Try.prog 81 #[.pointer (some ⟨R, 0, none⟩)] w1 fun e w' => e = .returned (.int .i64 (A.length - 1 : Nat)) ∧ w' = w1 := by
  obtain ⟨base, P, gg, n, cap, gn, cs, h1, _⟩ := h
  exact top_calls R (.slice none 0 0) A.length A.length _ w1 h1.r1 h0 hl

theorem good_opts {f : List Nz} (h : goodB f = true) (o : Nat) (b : Bool) (ho : o < (f.map downN).length) : (optsD (f.map downN) o b).length ≤ 24 := by
  obtain ⟨h1, _⟩ := (goodB_iff f).1 h
  obtain ⟨nd, hnd⟩ := lt_get ho
  have hl : nd.1.length ≤ 24 ∧ nd.2.length ≤ 24 := by
    obtain ⟨x, hx, rfl⟩ := List.mem_map.1 (List.mem_of_getElem? hnd)
    have := h1.2.2 x hx
    simpa [downN, downL] using this
  unfold optsD
  rw [nodeD_at hnd]
  cases b
  · exact hl.2
  · exact hl.1
end

section
open Go.RowKit
set_option linter.unusedVariables false
set_option linter.unusedSimpArgs false

/-- does the option at place q dominate the one at place p? -/
def domB (A : List Nd) (l : Bool) (o r : Nat) (p q : Nat) : Bool :=
  decide (q ≠ p) && ((if l then !winF A A r o false else !winF A A r o true) && (!(if l then !winF A A r o true else !winF A A r o false) || decide (q < p)))
def domC (A : List Nd) (Lo : List Nat) (l : Bool) (p q : Nat) : Bool := domB A l (Lo.getD p 0) (Lo.getD q 0) p q
def domP (A : List Nd) (Lo : List Nat) (l : Bool) (p n : Nat) : Bool := (List.range n).any (fun q => domC A Lo l p q)
def domL (A : List Nd) (Lo : List Nat) (l : Bool) (k : Nat) : List Nat := (List.range k).filter (fun p => domP A Lo l p Lo.length)
def domG (A : List Nd) (Lo : List Nat) (l : Bool) (k : Nat) : List Int := upL (domL A Lo l k)

theorem domP_zero (A : List Nd) (Lo : List Nat) (l : Bool) (p : Nat) : domP A Lo l p 0 = false := rfl
theorem domP_succ (A : List Nd) (Lo : List Nat) (l : Bool) (p q : Nat) : domP A Lo l p (q + 1) = (domP A Lo l p q || domC A Lo l p q) := by
  unfold domP
  rw [List.range_succ, List.any_append]
  simp
theorem domP_yes {A : List Nd} {Lo : List Nat} {l : Bool} {p q n : Nat} (h : domC A Lo l p q = true) (hq : q < n) : domP A Lo l p n = true := List.any_eq_true.2 ⟨q, by simpa using hq, h⟩
theorem domL_succ (A : List Nd) (Lo : List Nat) (l : Bool) (k : Nat) : domL A Lo l (k + 1) = domL A Lo l k ++ if domP A Lo l k Lo.length then [k] else [] := by
  unfold domL
  rw [List.range_succ, List.filter_append]
  congr 1
  rw [List.filter_cons, List.filter_nil]
theorem domG_yes {A : List Nd} {Lo : List Nat} {l : Bool} {k : Nat} (h : domP A Lo l k Lo.length = true) : domG A Lo l (k + 1) = domG A Lo l k ++ [(k : Int)] := by
  unfold domG
  rw [domL_succ, h]
  simp [upL]
theorem domG_no {A : List Nd} {Lo : List Nat} {l : Bool} {k : Nat} (h : domP A Lo l k Lo.length = false) : domG A Lo l (k + 1) = domG A Lo l k := by
  unfold domG
  rw [domL_succ, h]
  simp
theorem domG_len (A : List Nd) (Lo : List Nat) (l : Bool) (k : Nat) : (domG A Lo l k).length ≤ k := by
  unfold domG upL domL
  rw [List.length_map]
  exact Nat.le_trans (List.length_filter_le _ _) (by simp)

/-- a game against itself -/
theorem win_self {A : List Nd} (h : Book A) (i : Nat) (hi : i < A.length) : winF A A i i false = winF A A i i true := by
  have hu := h.struct.under
  have hid : ∀ i nd, A[i]? = some nd → A[(fun x : Nat => x) i]? = some (movd (fun x => x) nd) := fun i nd hh => by rw [movd_id h.struct hh]; exact hh
  have h2 := win_ge A A A (fun x => x) (fun x => x) hu hu hu hid hid (i + i + 1) i i (by omega) hi hi
  have h3 := h2.1.trans h2.2.symm
  revert h3
  cases winF A A i i false <;> cases winF A A i i true <;> simp

/-- as the program asks -/
theorem domC_is {A : List Nd} {Lo : List Nat} {l : Bool} {p q o r : Nat} {more less : Bool} (hw : ∀ o, o ∈ Lo → winF A A o o false = winF A A o o true) (ho : Lo[p]? = some o) (hr : Lo[q]? = some r) (h1 : winF A A r o false = !more) (h2 : winF A A r o true = !less) :
    domC A Lo l p q = if more && less then decide (q < p) else if l then more else less := by
  have e1 : Lo.getD p 0 = o := by rw [List.getD_eq_getElem?_getD, ho]; rfl
  have e2 : Lo.getD q 0 = r := by rw [List.getD_eq_getElem?_getD, hr]; rfl
  unfold domC domB
  rw [e1, e2, h1, h2]
  by_cases hpq : q = p
  · subst hpq
    rw [ho] at hr
    injection hr with hr
    subst hr
    have := hw o (List.mem_of_getElem? ho)
    rw [h1, h2] at this
    cases more <;> cases less <;> cases l <;> simp at this ⊢
  · cases more <;> cases less <;> cases l <;> simp [hpq]

set_option maxRecDepth 100000 in
set_option maxHeartbeats 8000000 in
theorem dominated_calls (base R P gg n cap gn : Nat) (A : List Nd) (va : Value) (hA : Under A) (hAl : A.length ≤ 1000) (i : Nat) (hi : i < A.length) (l : Bool) (Lo : List Nat) (ms : List Int) (hLo : Hid (optsD A i l = Lo)) (hL24 : Lo.length ≤ 1000)
    (hws : Hid (∀ o, o < A.length → winF A A o o false = winF A A o o true)) (HM : Hid (domG A Lo l Lo.length = ms)) (w : World)
    (h : Rs w base R P gg n cap gn A va) (cs : List Int) (hw : Wn A A cs) (hr : RowV base gg n cap cs w) :
    Calls Try.prog 80 #[.pointer (some ⟨R, 0, none⟩), .int .i64 i, .bool l] w fun e w' => ∃ v, e = .returned v ∧ OwnI w' w.heap.size v ms ∧ Asked base gg n cap A A w w' := by
  obtain ⟨i0, hi0, hz0, hz1, hz2⟩ := info_parts infoIntA
  obtain ⟨x, hx⟩ := lt_get hi
  obtain ⟨v1, v2, p1, p2, i1, i2⟩ := h.nd i x hx
  have hbz := h.ct.hg
  have hbz2 := h.ct.hgl
  have k0 := h.r0
  have k1 := h.r1
  have hPl := block_of_cell h.ct.c0
  have hRl := block_of_cell k0
  have hnl := h.hl
  have L1 : optsD A i l = if l then x.1 else x.2 := by unfold optsD; rw [nodeD_at hx]
  have HL1 : Hid (∀ o, o ∈ Lo → o < A.length) := Lib.hid (fun o ho => by rw [← hLo.out] at ho; have := optsD_lt hA ho; omega)
  have HWS : Hid (∀ o, o ∈ Lo → winF A A o o false = winF A A o o true) := Lib.hid (fun o ho => hws.out o (HL1.out o ho))
  obtain ⟨vo, hvo, hio⟩ : ∃ vo, (if l then v1 else v2) = vo ∧ IntsZ w 0 base vo (upL Lo) := by
    rw [← hLo.out, L1]
    cases l with
    | true => exact ⟨v1, rfl, i1⟩
    | false => exact ⟨v2, rfl, i2⟩
  obtain ⟨ao, co, rfl, hco⟩ := ints_len hio
  have HIW := Lib.hid hio
  have CO := Lib.hid fun W => (options_calls v1 v2 l W).mono fun e w' hp => (by rw [← hvo]; exact hp : e = .returned (.slice ao Lo.length co) ∧ Below W.heap.size W w')
  have CW : Hid (∀ (r o : Nat), r < A.length → o < A.length → ∀ (more less : Bool), winF A A r o false = !more → winF A A r o true = !less → ∀ W, Rs W base R P gg n cap gn A va → Asked base gg n cap A A w W → Calls Try.prog 111 #[.pointer (some ⟨P, 0, none⟩), .int .i64 (r : Int), .int .i64 (o : Int)] W fun e w' => e = .returned (.int .i64 (codeOf more less)) ∧ Asked base gg n cap A A W w') := Lib.hid (fun r o hr ho more less h1 h2 W hcW haW => by
    obtain ⟨cs', h1', h2', h3⟩ := haW
    have C := outcomeAt_calls base P gg n cap A A va va hA hA hAl hAl r o hr ho W hcW.ct cs' h1' h2' (!more) (!less) (Lib.hid h2) (Lib.hid h1)
    simpa using C)
  have HS0 := Lib.hid h
  have HW0 : Hid (∀ W, Below w.heap.size w W → Asked base gg n cap A A w W) := Lib.hid (fun W hW => ⟨cs, hw, hr.below hW, Only.of_below hW⟩)
  have q0 : (0 : Int) ≤ i := by omega
  have q1 : (i : Int) < A.length := by omega
  have q2 : (A.length : Int) ≤ 1000 := by omega
  clear h hw hr hx hvo hio i1 i2 L1 hLo hA hws
  obtain ⟨better, hbet⟩ : ∃ better : Int, better = if l then 1 else 2 := ⟨_, rfl⟩
  clear hbet better
  cases l with
  | false =>
    go_enter Try.func80, Try.ntmps80
    go_wp2
    go_step3
    go_wp2_with fail
    refine (CO.out _).mono ?_
    rintro e wc ⟨rfl, hb⟩
    have HC1 := Lib.hid (HS0.out.below hb)
    have HA0 := Lib.hid (HW0.out wc hb)
    have HIO := Lib.hid (HIW.out.below hb (by omega))
    have hsz0 := hb.size
    have HO0 : Hid (OwnI wc w.heap.size (.slice none 0 0) (domG A Lo false 0)) := Lib.hid (OwnI.nil wc w.heap.size)
    clear hb p1 p2 k0 k1 HS0 HW0 HIW CO
    go_wp2
    go_step3
    go_wp2
    go_loopg [9, 26] Lo.length (fun nn q i wr => ∃ k : Nat, nn + k = Lo.length ∧ i = .int .i64 k ∧ Hid (OwnI wr w.heap.size q (domG A Lo false k)) ∧ Hid (Asked base gg n cap A A w wr) ∧ Hid (Rs wr base R P gg n cap gn A va) ∧ Hid (IntsZ wr 0 base (.slice ao Lo.length co) (upL Lo)) ∧ w.heap.size ≤ wr.heap.size)
    case atStart => exact ⟨0, by omega, rfl, HO0, HA0, HC1, HIO, hsz0⟩
    case round =>
      obtain ⟨k, hgk, rfl, hown, ha, hc, hio, hsz⟩ := hrel
      clear HO0 HA0 HC1 HIO hsz0
      by_cases hlt : k < Lo.length
      · obtain ⟨n0, rfl⟩ : ∃ n0, gk = n0 + 1 := ⟨gk - 1, by omega⟩
        obtain ⟨o, ho⟩ := lt_get hlt
        have hoi := HL1.out o (List.mem_of_getElem? ho)
        obtain ⟨b', off', rfl, hbb, hcell⟩ := ints_at hio.out ho
        have HO := Lib.hid ho
        have b0 : (0 : Int) ≤ k := by omega
        have b1' : (k : Int) < Lo.length := by omega
        have HDZ : Hid (domP A Lo false k 0 = false) := Lib.hid rfl
        clear ho
        go_wp2
        go_loopg [9, 33] Lo.length (fun n2 qq j wy => ∃ q : Nat, n2 + q = Lo.length ∧ j = .int .i64 q ∧ Hid (domP A Lo false k q = false) ∧ Hid (OwnI wy w.heap.size qq (domG A Lo false k)) ∧ Hid (Asked base gg n cap A A w wy) ∧ Hid (Rs wy base R P gg n cap gn A va) ∧ Hid (IntsZ wy 0 base (.slice (some ⟨b', off', none⟩) Lo.length co) (upL Lo)) ∧ w.heap.size ≤ wy.heap.size)
        case atStart => exact ⟨0, by omega, rfl, HDZ, hown, ha, hc, hio, hsz⟩
        case round =>
          obtain ⟨q, hgq, rfl, hdp, hown, ha, hc, hio, hsz⟩ := hrel
          by_cases hql : q < Lo.length
          · obtain ⟨n1, rfl⟩ : ∃ n1, gk = n1 + 1 := ⟨gk - 1, by omega⟩
            obtain ⟨r, hr⟩ := lt_get hql
            have hri := HL1.out r (List.mem_of_getElem? hr)
            obtain ⟨b2, off2, e2, hbb2, hcell2⟩ := ints_at hio.out hr
            have e9 : b' = b2 ∧ off' = off2 := by
              injection e2 with e2
              injection e2 with e2 e3 _
              exact ⟨e2, e3⟩
            obtain ⟨rfl, rfl⟩ := e9
            clear e2
            obtain ⟨more, h1⟩ : ∃ more, winF A A r o false = !more := ⟨!winF A A r o false, by simp⟩
            obtain ⟨less, h2⟩ : ∃ less, winF A A r o true = !less := ⟨!winF A A r o true, by simp⟩
            have HDC := Lib.hid (domC_is (l := false) HWS.out HO.out hr h1 h2)
            have CC := Lib.hid (CW.out r o hri hoi more less h1 h2 _ hc.out ha.out)
            have k0 := hc.out.r0
            have c0 : (0 : Int) ≤ q := by omega
            have c1 : (q : Int) < Lo.length := by omega
            clear hr h1 h2
            cases more with
            | true =>
              cases less with
              | true =>
                have hcd : codeOf true true = 4 := rfl
                rw [hcd] at CC
                by_cases hqk : q < k
                · have hqi : ¬ ((k : Int) ≤ (q : Int)) := by omega
                  have HDY : Hid (domP A Lo false k Lo.length = true) := Lib.hid (domP_yes (q := q) (by rw [HDC.out]; simp [hqk]) hql)
                  have HS2 : Hid (domG A Lo false (k + 1) = domG A Lo false k ++ [(k : Int)]) := Lib.hid (domG_yes HDY.out)
                  have hml := domG_len A Lo false k
                  go_wp2_with fail
                  refine CC.out.mono ?_
                  rintro e w2 ⟨rfl, ha2⟩
                  have ho2 := ha2.only
                  have A2 := Lib.hid (ha.out.trans ha2)
                  have C2 := Lib.hid (hc.out.only ho2)
                  have I2 := Lib.hid (hio.out.keep (ha2.same hbz (by omega)))
                  have O2 : Hid (OwnI w2 w.heap.size u9 (domG A Lo false k)) := Lib.hid (hown.out.only ho2 (fun g h e => by have := hown.out.lt g h; omega))
                  have hs2 := ho2.size
                  clear ha2 ho2 hown ha hc hio CC hdp HDC
                  go_wp2_with (at_builtin; refine wpList_append_own_at _ rfl _ _ 35 rfl w.heap.size 3 i0 (.int .i64 0) 1 8 Try.underlying35 hi0 hz0 hz1 hz2 rfl (by decide) _ _ _ rfl (World.ownsRow.alloc O2.out _) ⟨w2.heap.size, 0, none⟩ 1 1 [.int .i64 (k : Int)] rfl rfl ?e1 ?e2 ?e3 ?e4 ?e5 ?_)
                  case e1 => exact World.news_of_block (heap_alloc_new _ _)
                  case e2 => first | rfl | (intro u hu; simp at hu; subst hu; rfl)
                  case e3 => unfold maxLen; omega
                  case e4 => omega
                  case e5 => simp; omega
                  intro v6 w6 hown6 hgrow6 hnil6 hat6
                  have O6 : Hid (OwnI w6 w.heap.size v6 (domG A Lo false (k + 1))) := Lib.hid (by rw [HS2.out]; unfold OwnI; rw [List.map_append, List.length_append]; exact hown6)
                  have hfar : Only w2 w6 (fun b => w.heap.size ≤ b) := (Only.of_below (F := fun b => w.heap.size ≤ b) ((Below.refl _ _).alloc (Nat.le_refl _) _)).trans (Only.of_grown (F := fun b => w.heap.size ≤ b) hgrow6 (fun g e => (O2.out.lt g e).1)) (fun _ _ h => h)
                  have A6 := Lib.hid (A2.out.far hfar hbz2 (Nat.le_refl _))
                  have C6 := Lib.hid (C2.out.far hfar hPl hbz2 hRl hnl (by omega))
                  have I6 := Lib.hid (I2.out.keep (hfar.sameIn (hi := base) (by omega) (fun b hb e => by omega)))
                  have hs6 := hfar.size
                  clear hown6 hgrow6 hnil6 hat6 hfar A2 C2 I2 O2 HS2 HDY
                  go_wp2_with fail
                  go_roundg n0
                  case measure => omega
                  case rel => exact ⟨k + 1, by omega, by go_num, O6, A6, C6, I6, by omega⟩
                · have hqi : (k : Int) ≤ (q : Int) := by omega
                  have HDN : Hid (domP A Lo false k (q + 1) = false) := Lib.hid (by rw [domP_succ, hdp.out, HDC.out]; simp ; omega)
                  go_wp2_with fail
                  refine CC.out.mono ?_
                  rintro e w2 ⟨rfl, ha2⟩
                  have ho2 := ha2.only
                  have A2 := Lib.hid (ha.out.trans ha2)
                  have C2 := Lib.hid (hc.out.only ho2)
                  have I2 := Lib.hid (hio.out.keep (ha2.same hbz (by omega)))
                  have O2 : Hid (OwnI w2 w.heap.size u9 (domG A Lo false k)) := Lib.hid (hown.out.only ho2 (fun g h e => by have := hown.out.lt g h; omega))
                  have hs2 := ho2.size
                  clear ha2 ho2 hown ha hc hio CC hdp HDC
                  go_wp2_with fail
                  go_roundg n1
                  case measure => omega
                  case rel => exact ⟨q + 1, by omega, by go_num, HDN, O2, A2, C2, I2, by omega⟩
              | false =>
                have hcd : codeOf true false = 1 := rfl
                rw [hcd] at CC
                have HDN : Hid (domP A Lo false k (q + 1) = false) := Lib.hid (by rw [domP_succ, hdp.out, HDC.out]; simp )
                go_wp2_with fail
                refine CC.out.mono ?_
                rintro e w2 ⟨rfl, ha2⟩
                have ho2 := ha2.only
                have A2 := Lib.hid (ha.out.trans ha2)
                have C2 := Lib.hid (hc.out.only ho2)
                have I2 := Lib.hid (hio.out.keep (ha2.same hbz (by omega)))
                have O2 : Hid (OwnI w2 w.heap.size u9 (domG A Lo false k)) := Lib.hid (hown.out.only ho2 (fun g h e => by have := hown.out.lt g h; omega))
                have hs2 := ho2.size
                clear ha2 ho2 hown ha hc hio CC hdp HDC
                go_wp2_with fail
                go_roundg n1
                case measure => omega
                case rel => exact ⟨q + 1, by omega, by go_num, HDN, O2, A2, C2, I2, by omega⟩
            | false =>
              cases less with
              | true =>
                have hcd : codeOf false true = 2 := rfl
                rw [hcd] at CC
                have HDY : Hid (domP A Lo false k Lo.length = true) := Lib.hid (domP_yes (q := q) (by rw [HDC.out]; simp ) hql)
                have HS2 : Hid (domG A Lo false (k + 1) = domG A Lo false k ++ [(k : Int)]) := Lib.hid (domG_yes HDY.out)
                have hml := domG_len A Lo false k
                go_wp2_with fail
                refine CC.out.mono ?_
                rintro e w2 ⟨rfl, ha2⟩
                have ho2 := ha2.only
                have A2 := Lib.hid (ha.out.trans ha2)
                have C2 := Lib.hid (hc.out.only ho2)
                have I2 := Lib.hid (hio.out.keep (ha2.same hbz (by omega)))
                have O2 : Hid (OwnI w2 w.heap.size u9 (domG A Lo false k)) := Lib.hid (hown.out.only ho2 (fun g h e => by have := hown.out.lt g h; omega))
                have hs2 := ho2.size
                clear ha2 ho2 hown ha hc hio CC hdp HDC
                go_wp2_with (at_builtin; refine wpList_append_own_at _ rfl _ _ 35 rfl w.heap.size 3 i0 (.int .i64 0) 1 8 Try.underlying35 hi0 hz0 hz1 hz2 rfl (by decide) _ _ _ rfl (World.ownsRow.alloc O2.out _) ⟨w2.heap.size, 0, none⟩ 1 1 [.int .i64 (k : Int)] rfl rfl ?e1 ?e2 ?e3 ?e4 ?e5 ?_)
                case e1 => exact World.news_of_block (heap_alloc_new _ _)
                case e2 => first | rfl | (intro u hu; simp at hu; subst hu; rfl)
                case e3 => unfold maxLen; omega
                case e4 => omega
                case e5 => simp; omega
                intro v6 w6 hown6 hgrow6 hnil6 hat6
                have O6 : Hid (OwnI w6 w.heap.size v6 (domG A Lo false (k + 1))) := Lib.hid (by rw [HS2.out]; unfold OwnI; rw [List.map_append, List.length_append]; exact hown6)
                have hfar : Only w2 w6 (fun b => w.heap.size ≤ b) := (Only.of_below (F := fun b => w.heap.size ≤ b) ((Below.refl _ _).alloc (Nat.le_refl _) _)).trans (Only.of_grown (F := fun b => w.heap.size ≤ b) hgrow6 (fun g e => (O2.out.lt g e).1)) (fun _ _ h => h)
                have A6 := Lib.hid (A2.out.far hfar hbz2 (Nat.le_refl _))
                have C6 := Lib.hid (C2.out.far hfar hPl hbz2 hRl hnl (by omega))
                have I6 := Lib.hid (I2.out.keep (hfar.sameIn (hi := base) (by omega) (fun b hb e => by omega)))
                have hs6 := hfar.size
                clear hown6 hgrow6 hnil6 hat6 hfar A2 C2 I2 O2 HS2 HDY
                go_wp2_with fail
                go_roundg n0
                case measure => omega
                case rel => exact ⟨k + 1, by omega, by go_num, O6, A6, C6, I6, by omega⟩
              | false =>
                have hcd : codeOf false false = 3 := rfl
                rw [hcd] at CC
                have HDN : Hid (domP A Lo false k (q + 1) = false) := Lib.hid (by rw [domP_succ, hdp.out, HDC.out]; simp )
                go_wp2_with fail
                refine CC.out.mono ?_
                rintro e w2 ⟨rfl, ha2⟩
                have ho2 := ha2.only
                have A2 := Lib.hid (ha.out.trans ha2)
                have C2 := Lib.hid (hc.out.only ho2)
                have I2 := Lib.hid (hio.out.keep (ha2.same hbz (by omega)))
                have O2 : Hid (OwnI w2 w.heap.size u9 (domG A Lo false k)) := Lib.hid (hown.out.only ho2 (fun g h e => by have := hown.out.lt g h; omega))
                have hs2 := ho2.size
                clear ha2 ho2 hown ha hc hio CC hdp HDC
                go_wp2_with fail
                go_roundg n1
                case measure => omega
                case rel => exact ⟨q + 1, by omega, by go_num, HDN, O2, A2, C2, I2, by omega⟩
          · have HDN : Hid (domP A Lo false k Lo.length = false) := Lib.hid (by rw [← hdp.out]; congr 1; omega)
            have HS2 : Hid (domG A Lo false (k + 1) = domG A Lo false k) := Lib.hid (domG_no HDN.out)
            have O2 : Hid (OwnI wr w.heap.size u9 (domG A Lo false (k + 1))) := Lib.hid (by rw [HS2.out]; exact hown.out)
            clear hdp hown HDN HS2
            go_wp2_with fail
            go_roundg n0
            case measure => omega
            case rel => exact ⟨k + 1, by omega, by go_num, O2, ha, hc, hio, by omega⟩
      · have hke : k = Lo.length := by omega
        subst hke
        rw [HM.out] at hown
        clear hc hio HM HL1 CW
        go_wp2_with fail
        try rw [Exit.noGoto_ret]
        go_ret
        exact ⟨_, rfl, hown.out, ha.out⟩
  | true =>
    go_enter Try.func80, Try.ntmps80
    go_wp2
    go_step3
    go_wp2_with fail
    refine (CO.out _).mono ?_
    rintro e wc ⟨rfl, hb⟩
    have HC1 := Lib.hid (HS0.out.below hb)
    have HA0 := Lib.hid (HW0.out wc hb)
    have HIO := Lib.hid (HIW.out.below hb (by omega))
    have hsz0 := hb.size
    have HO0 : Hid (OwnI wc w.heap.size (.slice none 0 0) (domG A Lo true 0)) := Lib.hid (OwnI.nil wc w.heap.size)
    clear hb p1 p2 k0 k1 HS0 HW0 HIW CO
    go_wp2
    go_step3
    go_wp2
    go_loopg [9, 26] Lo.length (fun nn q i wr => ∃ k : Nat, nn + k = Lo.length ∧ i = .int .i64 k ∧ Hid (OwnI wr w.heap.size q (domG A Lo true k)) ∧ Hid (Asked base gg n cap A A w wr) ∧ Hid (Rs wr base R P gg n cap gn A va) ∧ Hid (IntsZ wr 0 base (.slice ao Lo.length co) (upL Lo)) ∧ w.heap.size ≤ wr.heap.size)
    case atStart => exact ⟨0, by omega, rfl, HO0, HA0, HC1, HIO, hsz0⟩
    case round =>
      obtain ⟨k, hgk, rfl, hown, ha, hc, hio, hsz⟩ := hrel
      clear HO0 HA0 HC1 HIO hsz0
      by_cases hlt : k < Lo.length
      · obtain ⟨n0, rfl⟩ : ∃ n0, gk = n0 + 1 := ⟨gk - 1, by omega⟩
        obtain ⟨o, ho⟩ := lt_get hlt
        have hoi := HL1.out o (List.mem_of_getElem? ho)
        obtain ⟨b', off', rfl, hbb, hcell⟩ := ints_at hio.out ho
        have HO := Lib.hid ho
        have b0 : (0 : Int) ≤ k := by omega
        have b1' : (k : Int) < Lo.length := by omega
        have HDZ : Hid (domP A Lo true k 0 = false) := Lib.hid rfl
        clear ho
        go_wp2
        go_loopg [9, 33] Lo.length (fun n2 qq j wy => ∃ q : Nat, n2 + q = Lo.length ∧ j = .int .i64 q ∧ Hid (domP A Lo true k q = false) ∧ Hid (OwnI wy w.heap.size qq (domG A Lo true k)) ∧ Hid (Asked base gg n cap A A w wy) ∧ Hid (Rs wy base R P gg n cap gn A va) ∧ Hid (IntsZ wy 0 base (.slice (some ⟨b', off', none⟩) Lo.length co) (upL Lo)) ∧ w.heap.size ≤ wy.heap.size)
        case atStart => exact ⟨0, by omega, rfl, HDZ, hown, ha, hc, hio, hsz⟩
        case round =>
          obtain ⟨q, hgq, rfl, hdp, hown, ha, hc, hio, hsz⟩ := hrel
          by_cases hql : q < Lo.length
          · obtain ⟨n1, rfl⟩ : ∃ n1, gk = n1 + 1 := ⟨gk - 1, by omega⟩
            obtain ⟨r, hr⟩ := lt_get hql
            have hri := HL1.out r (List.mem_of_getElem? hr)
            obtain ⟨b2, off2, e2, hbb2, hcell2⟩ := ints_at hio.out hr
            have e9 : b' = b2 ∧ off' = off2 := by
              injection e2 with e2
              injection e2 with e2 e3 _
              exact ⟨e2, e3⟩
            obtain ⟨rfl, rfl⟩ := e9
            clear e2
            obtain ⟨more, h1⟩ : ∃ more, winF A A r o false = !more := ⟨!winF A A r o false, by simp⟩
            obtain ⟨less, h2⟩ : ∃ less, winF A A r o true = !less := ⟨!winF A A r o true, by simp⟩
            have HDC := Lib.hid (domC_is (l := true) HWS.out HO.out hr h1 h2)
            have CC := Lib.hid (CW.out r o hri hoi more less h1 h2 _ hc.out ha.out)
            have k0 := hc.out.r0
            have c0 : (0 : Int) ≤ q := by omega
            have c1 : (q : Int) < Lo.length := by omega
            clear hr h1 h2
            cases more with
            | true =>
              cases less with
              | true =>
                have hcd : codeOf true true = 4 := rfl
                rw [hcd] at CC
                by_cases hqk : q < k
                · have hqi : ¬ ((k : Int) ≤ (q : Int)) := by omega
                  have HDY : Hid (domP A Lo true k Lo.length = true) := Lib.hid (domP_yes (q := q) (by rw [HDC.out]; simp [hqk]) hql)
                  have HS2 : Hid (domG A Lo true (k + 1) = domG A Lo true k ++ [(k : Int)]) := Lib.hid (domG_yes HDY.out)
                  have hml := domG_len A Lo true k
                  go_wp2_with fail
                  refine CC.out.mono ?_
                  rintro e w2 ⟨rfl, ha2⟩
                  have ho2 := ha2.only
                  have A2 := Lib.hid (ha.out.trans ha2)
                  have C2 := Lib.hid (hc.out.only ho2)
                  have I2 := Lib.hid (hio.out.keep (ha2.same hbz (by omega)))
                  have O2 : Hid (OwnI w2 w.heap.size u9 (domG A Lo true k)) := Lib.hid (hown.out.only ho2 (fun g h e => by have := hown.out.lt g h; omega))
                  have hs2 := ho2.size
                  clear ha2 ho2 hown ha hc hio CC hdp HDC
                  go_wp2_with (at_builtin; refine wpList_append_own_at _ rfl _ _ 35 rfl w.heap.size 3 i0 (.int .i64 0) 1 8 Try.underlying35 hi0 hz0 hz1 hz2 rfl (by decide) _ _ _ rfl (World.ownsRow.alloc O2.out _) ⟨w2.heap.size, 0, none⟩ 1 1 [.int .i64 (k : Int)] rfl rfl ?e1 ?e2 ?e3 ?e4 ?e5 ?_)
                  case e1 => exact World.news_of_block (heap_alloc_new _ _)
                  case e2 => first | rfl | (intro u hu; simp at hu; subst hu; rfl)
                  case e3 => unfold maxLen; omega
                  case e4 => omega
                  case e5 => simp; omega
                  intro v6 w6 hown6 hgrow6 hnil6 hat6
                  have O6 : Hid (OwnI w6 w.heap.size v6 (domG A Lo true (k + 1))) := Lib.hid (by rw [HS2.out]; unfold OwnI; rw [List.map_append, List.length_append]; exact hown6)
                  have hfar : Only w2 w6 (fun b => w.heap.size ≤ b) := (Only.of_below (F := fun b => w.heap.size ≤ b) ((Below.refl _ _).alloc (Nat.le_refl _) _)).trans (Only.of_grown (F := fun b => w.heap.size ≤ b) hgrow6 (fun g e => (O2.out.lt g e).1)) (fun _ _ h => h)
                  have A6 := Lib.hid (A2.out.far hfar hbz2 (Nat.le_refl _))
                  have C6 := Lib.hid (C2.out.far hfar hPl hbz2 hRl hnl (by omega))
                  have I6 := Lib.hid (I2.out.keep (hfar.sameIn (hi := base) (by omega) (fun b hb e => by omega)))
                  have hs6 := hfar.size
                  clear hown6 hgrow6 hnil6 hat6 hfar A2 C2 I2 O2 HS2 HDY
                  go_wp2_with fail
                  go_roundg n0
                  case measure => omega
                  case rel => exact ⟨k + 1, by omega, by go_num, O6, A6, C6, I6, by omega⟩
                · have hqi : (k : Int) ≤ (q : Int) := by omega
                  have HDN : Hid (domP A Lo true k (q + 1) = false) := Lib.hid (by rw [domP_succ, hdp.out, HDC.out]; simp ; omega)
                  go_wp2_with fail
                  refine CC.out.mono ?_
                  rintro e w2 ⟨rfl, ha2⟩
                  have ho2 := ha2.only
                  have A2 := Lib.hid (ha.out.trans ha2)
                  have C2 := Lib.hid (hc.out.only ho2)
                  have I2 := Lib.hid (hio.out.keep (ha2.same hbz (by omega)))
                  have O2 : Hid (OwnI w2 w.heap.size u9 (domG A Lo true k)) := Lib.hid (hown.out.only ho2 (fun g h e => by have := hown.out.lt g h; omega))
                  have hs2 := ho2.size
                  clear ha2 ho2 hown ha hc hio CC hdp HDC
                  go_wp2_with fail
                  go_roundg n1
                  case measure => omega
                  case rel => exact ⟨q + 1, by omega, by go_num, HDN, O2, A2, C2, I2, by omega⟩
              | false =>
                have hcd : codeOf true false = 1 := rfl
                rw [hcd] at CC
                have HDY : Hid (domP A Lo true k Lo.length = true) := Lib.hid (domP_yes (q := q) (by rw [HDC.out]; simp ) hql)
                have HS2 : Hid (domG A Lo true (k + 1) = domG A Lo true k ++ [(k : Int)]) := Lib.hid (domG_yes HDY.out)
                have hml := domG_len A Lo true k
                go_wp2_with fail
                refine CC.out.mono ?_
                rintro e w2 ⟨rfl, ha2⟩
                have ho2 := ha2.only
                have A2 := Lib.hid (ha.out.trans ha2)
                have C2 := Lib.hid (hc.out.only ho2)
                have I2 := Lib.hid (hio.out.keep (ha2.same hbz (by omega)))
                have O2 : Hid (OwnI w2 w.heap.size u9 (domG A Lo true k)) := Lib.hid (hown.out.only ho2 (fun g h e => by have := hown.out.lt g h; omega))
                have hs2 := ho2.size
                clear ha2 ho2 hown ha hc hio CC hdp HDC
                go_wp2_with (at_builtin; refine wpList_append_own_at _ rfl _ _ 35 rfl w.heap.size 3 i0 (.int .i64 0) 1 8 Try.underlying35 hi0 hz0 hz1 hz2 rfl (by decide) _ _ _ rfl (World.ownsRow.alloc O2.out _) ⟨w2.heap.size, 0, none⟩ 1 1 [.int .i64 (k : Int)] rfl rfl ?e1 ?e2 ?e3 ?e4 ?e5 ?_)
                case e1 => exact World.news_of_block (heap_alloc_new _ _)
                case e2 => first | rfl | (intro u hu; simp at hu; subst hu; rfl)
                case e3 => unfold maxLen; omega
                case e4 => omega
                case e5 => simp; omega
                intro v6 w6 hown6 hgrow6 hnil6 hat6
                have O6 : Hid (OwnI w6 w.heap.size v6 (domG A Lo true (k + 1))) := Lib.hid (by rw [HS2.out]; unfold OwnI; rw [List.map_append, List.length_append]; exact hown6)
                have hfar : Only w2 w6 (fun b => w.heap.size ≤ b) := (Only.of_below (F := fun b => w.heap.size ≤ b) ((Below.refl _ _).alloc (Nat.le_refl _) _)).trans (Only.of_grown (F := fun b => w.heap.size ≤ b) hgrow6 (fun g e => (O2.out.lt g e).1)) (fun _ _ h => h)
                have A6 := Lib.hid (A2.out.far hfar hbz2 (Nat.le_refl _))
                have C6 := Lib.hid (C2.out.far hfar hPl hbz2 hRl hnl (by omega))
                have I6 := Lib.hid (I2.out.keep (hfar.sameIn (hi := base) (by omega) (fun b hb e => by omega)))
                have hs6 := hfar.size
                clear hown6 hgrow6 hnil6 hat6 hfar A2 C2 I2 O2 HS2 HDY
                go_wp2_with fail
                go_roundg n0
                case measure => omega
                case rel => exact ⟨k + 1, by omega, by go_num, O6, A6, C6, I6, by omega⟩
            | false =>
              cases less with
              | true =>
                have hcd : codeOf false true = 2 := rfl
                rw [hcd] at CC
                have HDN : Hid (domP A Lo true k (q + 1) = false) := Lib.hid (by rw [domP_succ, hdp.out, HDC.out]; simp )
                go_wp2_with fail
                refine CC.out.mono ?_
                rintro e w2 ⟨rfl, ha2⟩
                have ho2 := ha2.only
                have A2 := Lib.hid (ha.out.trans ha2)
                have C2 := Lib.hid (hc.out.only ho2)
                have I2 := Lib.hid (hio.out.keep (ha2.same hbz (by omega)))
                have O2 : Hid (OwnI w2 w.heap.size u9 (domG A Lo true k)) := Lib.hid (hown.out.only ho2 (fun g h e => by have := hown.out.lt g h; omega))
                have hs2 := ho2.size
                clear ha2 ho2 hown ha hc hio CC hdp HDC
                go_wp2_with fail
                go_roundg n1
                case measure => omega
                case rel => exact ⟨q + 1, by omega, by go_num, HDN, O2, A2, C2, I2, by omega⟩
              | false =>
                have hcd : codeOf false false = 3 := rfl
                rw [hcd] at CC
                have HDN : Hid (domP A Lo true k (q + 1) = false) := Lib.hid (by rw [domP_succ, hdp.out, HDC.out]; simp )
                go_wp2_with fail
                refine CC.out.mono ?_
                rintro e w2 ⟨rfl, ha2⟩
                have ho2 := ha2.only
                have A2 := Lib.hid (ha.out.trans ha2)
                have C2 := Lib.hid (hc.out.only ho2)
                have I2 := Lib.hid (hio.out.keep (ha2.same hbz (by omega)))
                have O2 : Hid (OwnI w2 w.heap.size u9 (domG A Lo true k)) := Lib.hid (hown.out.only ho2 (fun g h e => by have := hown.out.lt g h; omega))
                have hs2 := ho2.size
                clear ha2 ho2 hown ha hc hio CC hdp HDC
                go_wp2_with fail
                go_roundg n1
                case measure => omega
                case rel => exact ⟨q + 1, by omega, by go_num, HDN, O2, A2, C2, I2, by omega⟩
          · have HDN : Hid (domP A Lo true k Lo.length = false) := Lib.hid (by rw [← hdp.out]; congr 1; omega)
            have HS2 : Hid (domG A Lo true (k + 1) = domG A Lo true k) := Lib.hid (domG_no HDN.out)
            have O2 : Hid (OwnI wr w.heap.size u9 (domG A Lo true (k + 1))) := Lib.hid (by rw [HS2.out]; exact hown.out)
            clear hdp hown HDN HS2
            go_wp2_with fail
            go_roundg n0
            case measure => omega
            case rel => exact ⟨k + 1, by omega, by go_num, O2, ha, hc, hio, by omega⟩
      · have hke : k = Lo.length := by omega
        subst hke
        rw [HM.out] at hown
        clear hc hio HM HL1 CW
        go_wp2_with fail
        try rw [Exit.noGoto_ret]
        go_ret
        exact ⟨_, rfl, hown.out, ha.out⟩
end

section
open Go.RowKit
set_option linter.unusedVariables false
set_option linter.unusedSimpArgs false

theorem RewN.dom {N : Nat} {w w1 : World} {R : Nat} {A : List Nd} {va : Value} (h : RewN N w w1 R A va) (hA : Under A) (hAl : A.length ≤ 1000) (i : Nat) (hi : i < A.length) (l : Bool) (ms : List Int) (h24 : ∀ o b, o < A.length → (optsD A o b).length ≤ 1000)
    (hws : Hid (∀ o, o < A.length → winF A A o o false = winF A A o o true)) (HM : Hid (domG A (optsD A i l) l (optsD A i l).length = ms)) :
    Calls Try.prog 80 #[.pointer (some ⟨R, 0, none⟩), .int .i64 i, .bool l] w1 fun e w' => ∃ v, e = .returned v ∧ OwnI w' w1.heap.size v ms ∧ RewN N w w' R A va ∧ Only w1 w' (fun b => b < N) := by
  obtain ⟨base, P, gg, n, cap, gn, cs, h1, h2, h3, h4, h5, h6⟩ := h
  refine (dominated_calls base R P gg n cap gn A va hA hAl i hi l (optsD A i l) ms (Lib.hid rfl) (h24 i l hi) hws HM w1 h1 cs h2 h3).mono ?_
  rintro e w' ⟨v, rfl, ho, ha⟩
  exact ⟨v, rfl, ho, RewN.asked h1 h4 h5 h6 ha⟩

theorem good_bookD {f : List Nz} (h : goodB f = true) : Book (f.map downN) := by
  obtain ⟨h1, h2, h3, h4⟩ := (goodB_iff f).1 h
  exact rising_book h2.up.2 h3.rising

/-- what DominatedIn lists on a side -/
def domV (f : List Nz) (l : Bool) : List Int := if goodB f then domG (f.map downN) (optsD (f.map downN) (f.length - 1) l) l (optsD (f.map downN) (f.length - 1) l).length else []
theorem domV_yes {f : List Nz} (h : goodB f = true) (l : Bool) : domV f l = domG (f.map downN) (optsD (f.map downN) (f.length - 1) l) l (optsD (f.map downN) (f.length - 1) l).length := by unfold domV; rw [h]; rfl
theorem domV_no {f : List Nz} (h : goodB f = false) (l : Bool) : domV f l = [] := by unfold domV; rw [h]; rfl

theorem domV_len (f : List Nz) (l : Bool) : (domV f l).length ≤ 1000 := by
  cases h : goodB f with
  | false => rw [domV_no h]; simp
  | true =>
    rw [domV_yes h]
    have h1 := domG_len (f.map downN) (optsD (f.map downN) (f.length - 1) l) l (optsD (f.map downN) (f.length - 1) l).length
    have h2 := good_opts h (f.length - 1) l (by have := ((goodB_iff f).1 h).1.1; simp; omega)
    omega

set_option maxRecDepth 100000 in
set_option maxHeartbeats 4000000 in
theorem dominatedIn_calls (va : Value) (f : List Nz) (ok : Bool) (m1 m2 : List Int) (hok : Hid (goodB f = ok)) (hm1 : Hid (domV f true = m1)) (hm2 : Hid (domV f false = m2)) (w : World) (lo hi : Nat) (hh : hi ≤ w.heap.size) (hva : NodesZ w lo hi va f) :
    Calls Try.prog 37 #[.agg #[va]] w fun e w' => ∃ v1 v2, e = .returned (.tuple #[v1, v2, .bool ok]) ∧ OwnI w' w.heap.size v1 m1 ∧ OwnI w' w.heap.size v2 m2 ∧ Apart v1 v2 ∧ Below w.heap.size w w' := by
  have HB0 := Lib.hid fun o => show Below w.heap.size w (w.alloc o) from ((Below.refl _ _).alloc (Nat.le_refl _) _)
  cases ok with
  | false =>
    obtain rfl : m1 = [] := by rw [← hm1.out, domV_no hok.out]
    obtain rfl : m2 = [] := by rw [← hm2.out, domV_no hok.out]
    have C := Lib.hid fun (W : World) (hW : Below w.heap.size w W) => rewriting_bad va f hok.out W lo hi (Nat.le_trans hh hW.size) (hva.below hW hh)
    clear hva
    go_enter Try.func37, Try.ntmps37
    go_wp2_with fail
    refine (C.out _ (HB0.out _)).mono ?_
    rintro e wb ⟨rfl, hb⟩
    have HBB := Lib.hid ((HB0.out _).trans (hb.mono (by simp)))
    clear hb C
    have h1 : Below wb.heap.size wb (wb.alloc (.cells #[] 3)) := (Below.refl _ _).alloc (Nat.le_refl _) _
    have h2 : Below (wb.alloc (.cells #[] 3)).heap.size (wb.alloc (.cells #[] 3)) ((wb.alloc (.cells #[] 3)).alloc (.cells #[] 3)) := (Below.refl _ _).alloc (Nat.le_refl _) _
    have HBE : Hid (Below w.heap.size w ((wb.alloc (.cells #[] 3)).alloc (.cells #[] 3))) := Lib.hid (HBB.out.trans ((h1.trans (h2.mono (by simp))).mono HBB.out.size))
    have O1 : Hid (OwnI ((wb.alloc (.cells #[] 3)).alloc (.cells #[] 3)) w.heap.size (.slice (some ⟨wb.heap.size, 0, none⟩) 0 0) []) := Lib.hid (World.ownsRow.alloc (World.ownsRow_lit (base := w.heap.size) (e := 3) (size := 1) wb #[] 0 HBB.out.size (by unfold maxLen; omega) rfl) _)
    have O2 : Hid (OwnI ((wb.alloc (.cells #[] 3)).alloc (.cells #[] 3)) w.heap.size (.slice (some ⟨wb.heap.size + 1, 0, none⟩) 0 0) []) := Lib.hid (by
      have h := World.ownsRow_lit (base := w.heap.size) (e := 3) (size := 1) (wb.alloc (.cells #[] 3)) #[] 0 (by have := HBB.out.size; simp; omega) (by unfold maxLen; omega) rfl
      rw [show (wb.alloc (.cells #[] 3)).heap.size = wb.heap.size + 1 from by simp] at h
      exact h)
    clear h1 h2
    go_wp2_with fail
    exact bodyPost_ret (v := .tuple #[.slice (some ⟨wb.heap.size, 0, none⟩) 0 0, .slice (some ⟨wb.heap.size + 1, 0, none⟩) 0 0, .bool false]) (by simp [results, Try.results37, go_sem]) rfl ⟨_, _, rfl, O1.out, O2.out, fun q e1 e2 => by have := own_eqv e1; have := own_eqv e2; omega, HBE.out⟩
  | true =>
    have hg := hok.out
    obtain ⟨hf1, hf2, _⟩ := (goodB_iff f).1 hg
    have nA : (f.map downN).length = f.length := by simp
    have hp := hf1.1
    have h120 := hf1.2.1
    have C := Lib.hid fun (W : World) (hW : Below w.heap.size w W) => rewriting_good va f hg W lo hi (Nat.le_trans hh hW.size) (hva.below hW hh)
    have CT := Lib.hid fun (N : Nat) (W W1 : World) (R : Nat) (h : RewN N W W1 R (f.map downN) va) => h.top (by omega) (by omega)
    rw [nA] at CT
    have HWS : Hid (∀ o, o < (f.map downN).length → winF (f.map downN) (f.map downN) o o false = winF (f.map downN) (f.map downN) o o true) := Lib.hid (fun o ho => win_self (good_bookD hg) o ho)
    have C1 := Lib.hid fun (N : Nat) (W W1 : World) (R : Nat) (h : RewN N W W1 R (f.map downN) va) => h.dom hf2.up.2.under (by omega) (f.length - 1) (by omega) true m1 (fun o b ho => by have := good_opts hg o b ho; omega) HWS (Lib.hid (by rw [← domV_yes hg]; exact hm1.out))
    have C2 := Lib.hid fun (N : Nat) (W W1 : World) (R : Nat) (h : RewN N W W1 R (f.map downN) va) => h.dom hf2.up.2.under (by omega) (f.length - 1) (by omega) false m2 (fun o b ho => by have := good_opts hg o b ho; omega) HWS (Lib.hid (by rw [← domV_yes hg]; exact hm2.out))
    clear hva hf1 hf2 hg hm1 hm2
    go_enter Try.func37, Try.ntmps37
    go_wp2_with fail
    refine (C.out _ (HB0.out _)).mono ?_
    rintro e w4 ⟨R, rfl, hR⟩
    have HR4 := Lib.hid hR.toN
    have HB4 := Lib.hid ((HB0.out _).trans (hR.toN.bel.mono (by simp)))
    clear hR C
    have D1 := Lib.hid (CT.out _ _ _ _ HR4.out)
    go_wp2_with fail
    refine D1.out.mono ?_
    rintro e w5 ⟨rfl, rfl⟩
    have D2 := Lib.hid (C1.out _ _ _ _ HR4.out)
    clear D1
    go_wp2_with fail
    refine D2.out.mono ?_
    rintro e w6 ⟨v1, rfl, ho1, hR6, hp6⟩
    have HR6 := Lib.hid hR6
    have HO1 := Lib.hid ho1
    have D3 := Lib.hid (CT.out _ _ _ _ hR6)
    have HS6 := Lib.hid hp6.size
    clear D2 ho1 hR6 hp6
    go_wp2_with fail
    refine D3.out.mono ?_
    rintro e w7 ⟨rfl, rfl⟩
    have D4 := Lib.hid (C2.out _ _ _ _ HR6.out)
    clear D3
    go_wp2_with fail
    refine D4.out.mono ?_
    rintro e w8 ⟨v2, rfl, ho2, hR8, hp8⟩
    have O1 := Lib.hid (OwnI.mono (HO1.out.only hp8 (fun q e h => by have := HO1.out.lt q e; omega)) HB4.out.size)
    have O2 := Lib.hid (ho2.mono (Nat.le_trans HB4.out.size HS6.out))
    have HAP : Hid (Apart v1 v2) := Lib.hid (fun q e1 e2 => by have := HO1.out.lt q e1; have := ho2.lt q e2; omega)
    have HB8 := Lib.hid ((HB0.out _).trans (hR8.bel.mono (by simp)))
    obtain ⟨a1, c1, rfl⟩ := O1.out.form
    obtain ⟨a2, c2, rfl⟩ := O2.out.form
    clear D4 ho2 hR8 hp8 HO1 C1 C2 CT
    go_wp2_with fail
    exact bodyPost_ret (v := .tuple #[.slice a1 m1.length c1, .slice a2 m2.length c2, .bool true]) (by simp [results, Try.results37, go_sem]) rfl ⟨_, _, rfl, O1.out, O2.out, HAP.out, HB8.out⟩
end

section
open Go.RowKit
set_option linter.unusedVariables false
set_option linter.unusedSimpArgs false

theorem RewN.rev {N : Nat} {w w1 : World} {R : Nat} {A : List Nd} {va : Value} (h : RewN N w w1 R A va) (hA : Under A) (hAl : A.length ≤ 1000) (i : Nat) (hi : i < A.length) (l : Bool) (ms : List Int) (h24 : ∀ o b, o < A.length → (optsD A o b).length ≤ 1000)
    (HM : Hid (revG A (optsD A i l) i l (optsD A i l).length = ms)) :
    Calls Try.prog 83 #[.pointer (some ⟨R, 0, none⟩), .int .i64 i, .bool l] w1 fun e w' => ∃ v, e = .returned v ∧ OwnI w' w1.heap.size v ms ∧ RewN N w w' R A va ∧ Only w1 w' (fun b => b < N) := by
  obtain ⟨base, P, gg, n, cap, gn, cs, h1, h2, h3, h4, h5, h6⟩ := h
  refine (reversible_calls base R P gg n cap gn A va hA hAl i hi l (optsD A i l) ms (Lib.hid rfl) (h24 i l hi) (fun o ho => h24 o (!l) ho) HM w1 h1 cs h2 h3).mono ?_
  rintro e w' ⟨v, rfl, ho, ha⟩
  exact ⟨v, rfl, ho, RewN.asked h1 h4 h5 h6 ha⟩

/-- what ReversibleIn lists on a side -/
def revV (f : List Nz) (l : Bool) : List Int := if goodB f then revG (f.map downN) (optsD (f.map downN) (f.length - 1) l) (f.length - 1) l (optsD (f.map downN) (f.length - 1) l).length else []
theorem revV_yes {f : List Nz} (h : goodB f = true) (l : Bool) : revV f l = revG (f.map downN) (optsD (f.map downN) (f.length - 1) l) (f.length - 1) l (optsD (f.map downN) (f.length - 1) l).length := by unfold revV; rw [h]; rfl
theorem revV_no {f : List Nz} (h : goodB f = false) (l : Bool) : revV f l = [] := by unfold revV; rw [h]; rfl

theorem revV_len (f : List Nz) (l : Bool) : (revV f l).length ≤ 1000 := by
  cases h : goodB f with
  | false => rw [revV_no h]; simp
  | true =>
    rw [revV_yes h]
    have h1 := revG_len (f.map downN) (optsD (f.map downN) (f.length - 1) l) (f.length - 1) l (optsD (f.map downN) (f.length - 1) l).length
    have h2 := good_opts h (f.length - 1) l (by have := ((goodB_iff f).1 h).1.1; simp; omega)
    omega

set_option maxRecDepth 100000 in
set_option maxHeartbeats 4000000 in
theorem reversibleIn_calls (va : Value) (f : List Nz) (ok : Bool) (m1 m2 : List Int) (hok : Hid (goodB f = ok)) (hm1 : Hid (revV f true = m1)) (hm2 : Hid (revV f false = m2)) (w : World) (lo hi : Nat) (hh : hi ≤ w.heap.size) (hva : NodesZ w lo hi va f) :
    Calls Try.prog 39 #[.agg #[va]] w fun e w' => ∃ v1 v2, e = .returned (.tuple #[v1, v2, .bool ok]) ∧ OwnI w' w.heap.size v1 m1 ∧ OwnI w' w.heap.size v2 m2 ∧ Apart v1 v2 ∧ Below w.heap.size w w' := by
  have HB0 := Lib.hid fun o => show Below w.heap.size w (w.alloc o) from ((Below.refl _ _).alloc (Nat.le_refl _) _)
  cases ok with
  | false =>
    obtain rfl : m1 = [] := by rw [← hm1.out, revV_no hok.out]
    obtain rfl : m2 = [] := by rw [← hm2.out, revV_no hok.out]
    have C := Lib.hid fun (W : World) (hW : Below w.heap.size w W) => rewriting_bad va f hok.out W lo hi (Nat.le_trans hh hW.size) (hva.below hW hh)
    clear hva
    go_enter Try.func39, Try.ntmps39
    go_wp2_with fail
    refine (C.out _ (HB0.out _)).mono ?_
    rintro e wb ⟨rfl, hb⟩
    have HBB := Lib.hid ((HB0.out _).trans (hb.mono (by simp)))
    clear hb C
    have h1 : Below wb.heap.size wb (wb.alloc (.cells #[] 3)) := (Below.refl _ _).alloc (Nat.le_refl _) _
    have h2 : Below (wb.alloc (.cells #[] 3)).heap.size (wb.alloc (.cells #[] 3)) ((wb.alloc (.cells #[] 3)).alloc (.cells #[] 3)) := (Below.refl _ _).alloc (Nat.le_refl _) _
    have HBE : Hid (Below w.heap.size w ((wb.alloc (.cells #[] 3)).alloc (.cells #[] 3))) := Lib.hid (HBB.out.trans ((h1.trans (h2.mono (by simp))).mono HBB.out.size))
    have O1 : Hid (OwnI ((wb.alloc (.cells #[] 3)).alloc (.cells #[] 3)) w.heap.size (.slice (some ⟨wb.heap.size, 0, none⟩) 0 0) []) := Lib.hid (World.ownsRow.alloc (World.ownsRow_lit (base := w.heap.size) (e := 3) (size := 1) wb #[] 0 HBB.out.size (by unfold maxLen; omega) rfl) _)
    have O2 : Hid (OwnI ((wb.alloc (.cells #[] 3)).alloc (.cells #[] 3)) w.heap.size (.slice (some ⟨wb.heap.size + 1, 0, none⟩) 0 0) []) := Lib.hid (by
      have h := World.ownsRow_lit (base := w.heap.size) (e := 3) (size := 1) (wb.alloc (.cells #[] 3)) #[] 0 (by have := HBB.out.size; simp; omega) (by unfold maxLen; omega) rfl
      rw [show (wb.alloc (.cells #[] 3)).heap.size = wb.heap.size + 1 from by simp] at h
      exact h)
    clear h1 h2
    go_wp2_with fail
    exact bodyPost_ret (v := .tuple #[.slice (some ⟨wb.heap.size, 0, none⟩) 0 0, .slice (some ⟨wb.heap.size + 1, 0, none⟩) 0 0, .bool false]) (by simp [results, Try.results39, go_sem]) rfl ⟨_, _, rfl, O1.out, O2.out, fun q e1 e2 => by have := own_eqv e1; have := own_eqv e2; omega, HBE.out⟩
  | true =>
    have hg := hok.out
    obtain ⟨hf1, hf2, _⟩ := (goodB_iff f).1 hg
    have nA : (f.map downN).length = f.length := by simp
    have hp := hf1.1
    have h120 := hf1.2.1
    have C := Lib.hid fun (W : World) (hW : Below w.heap.size w W) => rewriting_good va f hg W lo hi (Nat.le_trans hh hW.size) (hva.below hW hh)
    have CT := Lib.hid fun (N : Nat) (W W1 : World) (R : Nat) (h : RewN N W W1 R (f.map downN) va) => h.top (by omega) (by omega)
    rw [nA] at CT
    have C1 := Lib.hid fun (N : Nat) (W W1 : World) (R : Nat) (h : RewN N W W1 R (f.map downN) va) => h.rev hf2.up.2.under (by omega) (f.length - 1) (by omega) true m1 (fun o b ho => by have := good_opts hg o b ho; omega) (Lib.hid (by rw [← revV_yes hg]; exact hm1.out))
    have C2 := Lib.hid fun (N : Nat) (W W1 : World) (R : Nat) (h : RewN N W W1 R (f.map downN) va) => h.rev hf2.up.2.under (by omega) (f.length - 1) (by omega) false m2 (fun o b ho => by have := good_opts hg o b ho; omega) (Lib.hid (by rw [← revV_yes hg]; exact hm2.out))
    clear hva hf1 hf2 hg hm1 hm2
    go_enter Try.func39, Try.ntmps39
    go_wp2_with fail
    refine (C.out _ (HB0.out _)).mono ?_
    rintro e w4 ⟨R, rfl, hR⟩
    have HR4 := Lib.hid hR.toN
    have HB4 := Lib.hid ((HB0.out _).trans (hR.toN.bel.mono (by simp)))
    clear hR C
    have D1 := Lib.hid (CT.out _ _ _ _ HR4.out)
    go_wp2_with fail
    refine D1.out.mono ?_
    rintro e w5 ⟨rfl, rfl⟩
    have D2 := Lib.hid (C1.out _ _ _ _ HR4.out)
    clear D1
    go_wp2_with fail
    refine D2.out.mono ?_
    rintro e w6 ⟨v1, rfl, ho1, hR6, hp6⟩
    have HR6 := Lib.hid hR6
    have HO1 := Lib.hid ho1
    have D3 := Lib.hid (CT.out _ _ _ _ hR6)
    have HS6 := Lib.hid hp6.size
    clear D2 ho1 hR6 hp6
    go_wp2_with fail
    refine D3.out.mono ?_
    rintro e w7 ⟨rfl, rfl⟩
    have D4 := Lib.hid (C2.out _ _ _ _ HR6.out)
    clear D3
    go_wp2_with fail
    refine D4.out.mono ?_
    rintro e w8 ⟨v2, rfl, ho2, hR8, hp8⟩
    have O1 := Lib.hid (OwnI.mono (HO1.out.only hp8 (fun q e h => by have := HO1.out.lt q e; omega)) HB4.out.size)
    have O2 := Lib.hid (ho2.mono (Nat.le_trans HB4.out.size HS6.out))
    have HAP : Hid (Apart v1 v2) := Lib.hid (fun q e1 e2 => by have := HO1.out.lt q e1; have := ho2.lt q e2; omega)
    have HB8 := Lib.hid ((HB0.out _).trans (hR8.bel.mono (by simp)))
    obtain ⟨a1, c1, rfl⟩ := O1.out.form
    obtain ⟨a2, c2, rfl⟩ := O2.out.form
    clear D4 ho2 hR8 hp8 HO1 C1 C2 CT
    go_wp2_with fail
    exact bodyPost_ret (v := .tuple #[.slice a1 m1.length c1, .slice a2 m2.length c2, .bool true]) (by simp [results, Try.results39, go_sem]) rfl ⟨_, _, rfl, O1.out, O2.out, HAP.out, HB8.out⟩
end

section
set_option linter.unusedVariables false
set_option linter.unusedSimpArgs false

def domX (A : List Nd) (i : Nat) (l : Bool) : List Int := domG A (optsD A i l) l (optsD A i l).length
def revX (A : List Nd) (i : Nat) (l : Bool) : List Int := revG A (optsD A i l) i l (optsD A i l).length
/-- nothing to drop or to bypass on a side of a node -/
def icB (A : List Nd) (i : Nat) (l : Bool) : Bool := decide ((domX A i l).length = 0) && decide ((revX A i l).length = 0)
def icN (A : List Nd) (i : Nat) : Bool := icB A i true && icB A i false
def icP (A : List Nd) (k : Nat) : Bool := (List.range k).all (icN A)
def icV (f : List Nz) : Bool := goodB f && icP (f.map downN) f.length
theorem icP_zero (A : List Nd) : icP A 0 = true := rfl
theorem icP_succ (A : List Nd) (k : Nat) : icP A (k + 1) = (icP A k && icN A k) := by
  unfold icP
  rw [List.range_succ, List.all_append]
  simp
theorem icP_no {A : List Nd} {i n : Nat} (hi : i < n) (h : icN A i = false) : icP A n = false := by
  unfold icP
  rw [Bool.eq_false_iff]
  intro hc
  have := List.all_eq_true.1 hc i (by simpa using hi)
  rw [h] at this
  cases this
theorem icV_yes {f : List Nz} (h : goodB f = true) : icV f = icP (f.map downN) f.length := by unfold icV; rw [h]; rfl
theorem icV_no {f : List Nz} (h : goodB f = false) : icV f = false := by unfold icV; rw [h]; rfl

/-- the sides of a node that have been asked -/
def icS (A : List Nd) (k q : Nat) : Bool := if q = 0 then true else if q = 1 then icB A k true else icN A k
theorem icS_step (A : List Nd) (k q : Nat) (hq : q < 2) : ∃ l : Bool, l = decide (q = 0) ∧ (icB A k l = false → icN A k = false) ∧ (icS A k q = true → icB A k l = true → icS A k (q + 1) = true) := by
  refine ⟨decide (q = 0), rfl, ?_, ?_⟩
  · rcases Nat.lt_or_ge q 1 with h | h
    · obtain rfl : q = 0 := by omega
      intro hb
      simp at hb
      unfold icN
      rw [hb]; rfl
    · obtain rfl : q = 1 := by omega
      intro hb
      simp at hb
      unfold icN
      rw [hb]; simp
  · rcases Nat.lt_or_ge q 1 with h | h
    · obtain rfl : q = 0 := by omega
      intro _ hb
      simpa [icS] using hb
    · obtain rfl : q = 1 := by omega
      intro hs hb
      simp [icS] at hs hb ⊢
      unfold icN
      rw [hs, hb]; rfl
theorem icS_end {A : List Nd} {k q : Nat} (h : icS A k q = true) (hq : ¬ q < 2) : icN A k = true := by
  unfold icS at h
  rw [if_neg (by omega), if_neg (by omega)] at h
  exact h
theorem icB_dom {A : List Nd} {k n : Nat} {l : Bool} (h : (domX A k l).length = n) (hn : n ≠ 0) : icB A k l = false := by unfold icB; rw [h]; simp [hn]
theorem icB_rev {A : List Nd} {k n : Nat} {l : Bool} (h : (revX A k l).length = n) (hn : n ≠ 0) : icB A k l = false := by unfold icB; rw [h]; simp [hn]
theorem icB_yes {A : List Nd} {k : Nat} {l : Bool} (h : (domX A k l).length = 0) (h2 : (revX A k l).length = 0) : icB A k l = true := by unfold icB; rw [h, h2]; rfl
end

section
open Go.RowKit
set_option linter.unusedVariables false
set_option linter.unusedSimpArgs false

set_option maxRecDepth 100000 in
set_option maxHeartbeats 4000000 in
theorem isCanon_calls (va : Value) (f : List Nz) (ok r : Bool) (hok : Hid (goodB f = ok)) (hr : Hid (icV f = r)) (w : World) (lo hi : Nat) (hh : hi ≤ w.heap.size) (hva : NodesZ w lo hi va f) :
    Calls Try.prog 41 #[.agg #[va]] w fun e w' => e = .returned (.tuple #[.bool r, .bool ok]) ∧ Below w.heap.size w w' := by
  have HB0 := Lib.hid fun o => show Below w.heap.size w (w.alloc o) from ((Below.refl _ _).alloc (Nat.le_refl _) _)
  cases ok with
  | false =>
    obtain rfl : r = false := by rw [← hr.out, icV_no hok.out]
    have C := Lib.hid fun (W : World) (hW : Below w.heap.size w W) => rewriting_bad va f hok.out W lo hi (Nat.le_trans hh hW.size) (hva.below hW hh)
    clear hva
    go_enter Try.func41, Try.ntmps41
    go_wp2_with fail
    refine (C.out _ (HB0.out _)).mono ?_
    rintro e wb ⟨rfl, hb⟩
    have HBB := Lib.hid ((HB0.out _).trans (hb.mono (by simp)))
    clear hb C
    go_wp2_with fail
    exact bodyPost_ret (v := .tuple #[.bool false, .bool false]) (by simp [results, Try.results41, go_sem]) rfl ⟨rfl, HBB.out⟩
  | true =>
    have hg := hok.out
    obtain ⟨hf1, hf2, _⟩ := (goodB_iff f).1 hg
    have nA : (f.map downN).length = f.length := by simp
    have hp := hf1.1
    have h120 := hf1.2.1
    have HRR : Hid (icP (f.map downN) f.length = r) := Lib.hid (by rw [← icV_yes hg]; exact hr.out)
    have C := Lib.hid fun (W : World) (hW : Below w.heap.size w W) => rewriting_good va f hg W lo hi (Nat.le_trans hh hW.size) (hva.below hW hh)
    have HWS : Hid (∀ o, o < (f.map downN).length → winF (f.map downN) (f.map downN) o o false = winF (f.map downN) (f.map downN) o o true) := Lib.hid (fun o ho => win_self (good_bookD hg) o ho)
    have CD := Lib.hid fun (N : Nat) (W W1 : World) (R : Nat) (h : RewN N W W1 R (f.map downN) va) (i : Nat) (hi : i < f.length) (l : Bool) (n : Nat) (hn : (domX (f.map downN) i l).length = n) =>
      (h.dom hf2.up.2.under (by omega) i (by omega) l (domX (f.map downN) i l) (fun o b ho => by have := good_opts hg o b ho; omega) HWS (Lib.hid rfl)).mono fun e w' hp => (by
        obtain ⟨v, he, ho, h2, h3⟩ := hp
        obtain ⟨a, c, rfl⟩ := ho.form
        exact ⟨a, c, by rw [he, hn], h2, h3⟩ : ∃ a c, e = .returned (.slice a n c) ∧ RewN N W w' R (f.map downN) va ∧ Only W1 w' (fun b => b < N))
    have CR := Lib.hid fun (N : Nat) (W W1 : World) (R : Nat) (h : RewN N W W1 R (f.map downN) va) (i : Nat) (hi : i < f.length) (l : Bool) (n : Nat) (hn : (revX (f.map downN) i l).length = n) =>
      (h.rev hf2.up.2.under (by omega) i (by omega) l (revX (f.map downN) i l) (fun o b ho => by have := good_opts hg o b ho; omega) (Lib.hid rfl)).mono fun e w' hp => (by
        obtain ⟨v, he, ho, h2, h3⟩ := hp
        obtain ⟨a, c, rfl⟩ := ho.form
        exact ⟨a, c, by rw [he, hn], h2, h3⟩ : ∃ a c, e = .returned (.slice a n c) ∧ RewN N W w' R (f.map downN) va ∧ Only W1 w' (fun b => b < N))
    clear hva hf1 hf2 hg hr hok HWS
    go_enter Try.func41, Try.ntmps41
    go_wp2_with fail
    refine (C.out _ (HB0.out _)).mono ?_
    rintro e w4 ⟨R, rfl, hR⟩
    have HR4 := Lib.hid hR.toN
    obtain ⟨N, hN⟩ : ∃ N, w4.heap.size = N := ⟨_, rfl⟩
    rw [hN] at HR4
    have kr : ∃ g, w4.cell? ⟨R, 1, none⟩ = some (.slice (some ⟨g, 0, none⟩) f.length f.length) := by
      obtain ⟨base, P, gg, n, cap, gn, cs, h1, _⟩ := hR
      exact ⟨gn, by rw [← nA]; exact h1.r1⟩
    obtain ⟨gr, kr⟩ := kr
    have hN4 : N ≤ w4.heap.size := by omega
    clear hR C hN
    go_wp2
    go_loopg [21] f.length (fun nn q wr => ∃ k : Nat, nn + k = f.length ∧ q = .int .i64 k ∧ Hid (icP (f.map downN) k = true) ∧ Hid (RewN N (w.alloc (.cells #[va] 28)) wr R (f.map downN) va) ∧ N ≤ wr.heap.size)
    case atStart => exact ⟨0, by omega, rfl, Lib.hid rfl, HR4, hN4⟩
    case round =>
      obtain ⟨k, hgk, rfl, hic, hrw, hsz⟩ := hrel
      clear HR4 hN4 kr
      by_cases hlt : k < f.length
      · obtain ⟨n0, rfl⟩ : ∃ n0, gk = n0 + 1 := ⟨gk - 1, by omega⟩
        have b0 : (0 : Int) ≤ k := by omega
        have b1 : (k : Int) < f.length := by omega
        obtain ⟨wo, rfl⟩ : ∃ W : World, W = wr := ⟨_, rfl⟩
        have hal : Below wo.heap.size wo (wo.alloc (.cells #[.bool true, .bool false] 4)) := (Below.refl _ _).alloc (Nat.le_refl _) _
        have t0 : (wo.alloc (.cells #[.bool true, .bool false] 4)).cell? ⟨wo.heap.size, 0, none⟩ = some (.bool true) := by go_simp
        have t1 : (wo.alloc (.cells #[.bool true, .bool false] 4)).cell? ⟨wo.heap.size, 1, none⟩ = some (.bool false) := by go_simp
        have HRW := Lib.hid (hrw.out.below hal)
        have hs1 : wo.heap.size < (wo.alloc (.cells #[.bool true, .bool false] 4)).heap.size := by simp
        clear hal hrw
        go_wp2
        generalize wo.alloc (.cells #[.bool true, .bool false] 4) = W1 at t0 t1 HRW hs1 ⊢
        go_loopg [26] 2 (fun n2 j wy => ∃ q : Nat, n2 + q = 2 ∧ j = .int .i64 q ∧ Hid (icS (f.map downN) k q = true) ∧ Hid (RewN N (w.alloc (.cells #[va] 28)) wy R (f.map downN) va) ∧ wy.cell? ⟨wo.heap.size, 0, none⟩ = some (.bool true) ∧ wy.cell? ⟨wo.heap.size, 1, none⟩ = some (.bool false))
        case atStart => exact ⟨0, by omega, rfl, Lib.hid rfl, HRW, t0, t1⟩
        case round =>
          clear HRW t0 t1 hs1
          obtain ⟨q, hgq, rfl, his, hrw, t0, t1⟩ := hrel
          by_cases hql : q < 2
          · obtain ⟨n1, rfl⟩ : ∃ n1, gk = n1 + 1 := ⟨gk - 1, by omega⟩
            obtain ⟨l, hl, hno, hyes⟩ := icS_step (f.map downN) k q hql
            obtain ⟨wi, rfl⟩ : ∃ W : World, W = wr := ⟨_, rfl⟩
            have tq : wi.cell? ⟨wo.heap.size, q, none⟩ = some (.bool l) := by
              rcases Nat.lt_or_ge q 1 with h | h
              · obtain rfl : q = 0 := by omega
                rw [hl]; exact t0
              · obtain rfl : q = 1 := by omega
                rw [hl]; exact t1
            have HNO := Lib.hid hno
            have HYES := Lib.hid hyes
            clear hl hno hyes
            obtain ⟨n3, hn3⟩ : ∃ n, (domX (f.map downN) k l).length = n := ⟨_, rfl⟩
            obtain ⟨n4, hn4⟩ : ∃ n, (revX (f.map downN) k l).length = n := ⟨_, rfl⟩
            have D1 := Lib.hid (CD.out N _ wi R hrw.out k hlt l n3 hn3)
            have HN3 := Lib.hid hn3
            have HN4 := Lib.hid hn4
            have c0 : (0 : Int) ≤ q := by omega
            have c1 : (q : Int) < 2 := by omega
            have lt0 := block_of_cell t0
            clear hn3 hn4
            go_wp2_with fail
            refine D1.out.mono ?_
            rintro e w5 ⟨a5, c5, rfl, hr5, ho5⟩
            have hr5b := hr5
            by_cases hz3 : n3 = 0
            · subst hz3
              have D2 := Lib.hid (CR.out N _ w5 R hr5 k hlt l n4 HN4.out)
              have t0 := (ho5.cell lt0 (by omega)).trans t0
              have t1 := (ho5.cell lt0 (by omega)).trans t1
              have lt0 := block_of_cell t0
              clear hr5 hr5b ho5 D1 tq hrw
              go_wp2_with fail
              refine D2.out.mono ?_
              rintro e w6 ⟨a6, c6, rfl, hr6, ho6⟩
              by_cases hz4 : n4 = 0
              · subst hz4
                have t0 := (ho6.cell lt0 (by omega)).trans t0
                have t1 := (ho6.cell lt0 (by omega)).trans t1
                have HR6 := Lib.hid hr6
                have HIS := Lib.hid (HYES.out his.out (icB_yes HN3.out HN4.out))
                clear hr6 ho6 D2 his
                go_wp2_with fail
                go_roundg n1
                case measure => omega
                case rel => exact ⟨q + 1, by omega, by go_num, HIS, HR6, t0, t1⟩
              · have RF : Hid (r = false) := Lib.hid (by rw [← HRR.out]; exact icP_no hlt (HNO.out (icB_rev HN4.out hz4)))
                have BF : Hid (Below w.heap.size w w6) := Lib.hid ((HB0.out _).trans (hr6.bel.mono (by simp)))
                have hp4 : (0 : Int) < n4 := by omega
                clear hr6 ho6 D2 his
                go_wp2_with fail
                exact bodyPost_ret (v := .tuple #[.bool false, .bool true]) (by simp [results, Try.results41, go_sem]) rfl ⟨by rw [RF.out], BF.out⟩
            · have RF : Hid (r = false) := Lib.hid (by rw [← HRR.out]; exact icP_no hlt (HNO.out (icB_dom HN3.out hz3)))
              have BF : Hid (Below w.heap.size w w5) := Lib.hid ((HB0.out _).trans (hr5.bel.mono (by simp)))
              have hp3 : (0 : Int) < n3 := by omega
              clear hr5 hr5b ho5 D1 tq hrw his
              go_wp2_with fail
              exact bodyPost_ret (v := .tuple #[.bool false, .bool true]) (by simp [results, Try.results41, go_sem]) rfl ⟨by rw [RF.out], BF.out⟩
          · have HIC : Hid (icP (f.map downN) (k + 1) = true) := Lib.hid (by rw [icP_succ, hic.out, icS_end his.out hql]; rfl)
            have hq2 : q = 2 := by omega
            subst hq2
            have hszn : N ≤ wr.heap.size := by have := block_of_cell t0; omega
            clear his hic t0 t1
            go_wp2_with fail
            go_roundg n0
            case measure => omega
            case rel => exact ⟨k + 1, by omega, by go_num, HIC, hrw, hszn⟩
      · have hke : k = f.length := by omega
        subst hke
        have RT : Hid (r = true) := Lib.hid (by rw [← HRR.out]; exact hic.out)
        have BF : Hid (Below w.heap.size w wr) := Lib.hid ((HB0.out _).trans (hrw.out.bel.mono (by simp)))
        clear hic hrw
        go_wp2_with fail
        exact bodyPost_ret (v := .tuple #[.bool true, .bool true]) (by simp [results, Try.results41, go_sem]) rfl ⟨by rw [RT.out], BF.out⟩
end

section
open Go.RowKit
set_option linter.unusedVariables false
set_option linter.unusedSimpArgs false

theorem addF_book {A : List Nd} (h : Book A) : addF [] A = (A, List.range A.length) := by
  induction A using snocInd with
  | nil => rfl
  | snoc l x ih =>
    have hl : Book l := by
      refine ⟨fun k nd hk => h.struct k nd (by rw [List.getElem?_append_left (get_lt hk)]; exact hk), (List.nodup_append.1 h.nodup).1⟩
    rw [addF_snoc, ih hl]
    have hx : (l ++ [x])[l.length]? = some x := by simp
    have hs := h.struct l.length x hx
    have hm : movd (fun y => (List.range l.length).getD y 0) x = x := by
      rw [movd_congr _ (fun y => y) x (fun y hy => by
        have hy' := hs.2.2 y hy
        rw [List.getD_eq_getElem?_getD, List.getElem?_range hy']; rfl)]
      exact movd_id h.struct hx
    have hn : x ∉ l := fun hm => by
      have := (List.nodup_append.1 h.nodup).2.2 x hm x (by simp)
      exact this rfl
    simp only
    rw [hm]
    unfold bookPut seat
    rw [if_neg hn, List.idxOf_eq_length hn]
    simp [List.range_succ]

theorem ge_self {A : List Nd} (h : Book A) (i j : Nat) (hi : i < A.length) (hj : j < A.length) : geF A i j = !winF A A i j false ∧ geF A j i = !winF A A i j true := by
  have hu := h.struct.under
  have hid : ∀ i nd, A[i]? = some nd → A[(fun x : Nat => x) i]? = some (movd (fun x => x) nd) := fun i nd hh => by rw [movd_id h.struct hh]; exact hh
  have := win_ge A A A (fun x => x) (fun x => x) hu hu hu hid hid (i + j + 1) i j (by omega) hi hj
  exact ⟨this.1.symm, this.2.symm⟩

theorem good_bookT {f : List Nz} (h : goodB f = true) : Book (f.map downN) := by
  obtain ⟨h1, h2, h3, h4⟩ := (goodB_iff f).1 h
  exact rising_book h2.up.2 h3.rising

/-- the order of a book, all that it knows right -/
def AskM (base g n : Nat) (C : List Nd) (w w' : World) : Prop := ∃ cs, Rt C C.length cs (C.length + C.length) ∧ RowK base g n cs w' ∧ Only w w' (fun b => b = g)

theorem AskM.trans {base g n : Nat} {C : List Nd} {w w1 w2 : World} (h : AskM base g n C w w1) (k : AskM base g n C w1 w2) : AskM base g n C w w2 := by
  obtain ⟨_, _, _, h3⟩ := h
  obtain ⟨cs, k1, k2, k3⟩ := k
  exact ⟨cs, k1, k2, h3.trans k3 (fun _ _ h => h)⟩
theorem AskM.only {base g n : Nat} {C : List Nd} {w w1 : World} (h : AskM base g n C w w1) : Only w w1 (fun b => b = g) := by obtain ⟨_, _, _, h3⟩ := h; exact h3
theorem AskM.below {base g n : Nat} {C : List Nd} {w w1 w2 : World} (h : AskM base g n C w w1) (hb : Below w1.heap.size w1 w2) : AskM base g n C w w2 := by
  obtain ⟨cs, k1, k2, h3⟩ := h
  exact ⟨cs, k1, k2.below hb, h3.trans (Only.of_below hb) (fun _ _ h => h)⟩

/-- geq, whatever has been asked -/
theorem geqM_calls (base O B g n : Nat) (C : List Nd) (bs : List Nat) (vn vb : Value) (vs : List (Value × Value)) (hC : Under C) (hCl : C.length ≤ 1000) (x y : Nat) (hx : x < C.length) (hy : y < C.length) (r : Bool) (hr : geF C x y = r) (w w1 : World)
    (h : Od w1 base O B g n C bs vn vb vs) (ha : AskM base g n C w w1) :
    Calls Try.prog 109 #[.pointer (some ⟨O, 0, none⟩), .int .i64 x, .int .i64 y] w1 fun e w' => e = .returned (.bool r) ∧ AskM base g n C w1 w' := by
  obtain ⟨cs, h1, h2, h3⟩ := ha
  refine (geq_calls base O B g n C bs vn vb vs hC hCl (x + y + 1) x y cs w1 (by omega) hx hy h (h1.mono (by omega)) h2).mono ?_
  rintro e w' ⟨he, cs2, k1, k2, k3, k4⟩
  exact ⟨by rw [he, hr], cs2, h1.behind (by omega) k1 k2, k3, k4⟩

set_option maxRecDepth 100000 in
set_option maxHeartbeats 2000000 in
theorem l6Book_calls (va : Value) (f : List Nz) (hg : goodB f = true) (w : World) (lo hi : Nat) (hh : hi ≤ w.heap.size) (hva : NodesZ w lo hi va f) :
    Calls Try.prog 77 #[.agg #[va]] w fun e w' => ∃ base O B g n vn vb vs, e = .returned (.tuple #[.pointer (some ⟨O, 0, none⟩), .int .i64 (f.length - 1 : Nat)]) ∧ Od w' base O B g n (f.map downN) (bornsOf (f.map downN)) vn vb vs ∧ AskM base g n (f.map downN) w' w' ∧ w.heap.size ≤ base ∧ w.heap.size ≤ g ∧ Below w.heap.size w w' := by
  obtain ⟨hf1, hf2, _⟩ := (goodB_iff f).1 hg
  have hbk := good_bookT hg
  have nA : (f.map downN).length = f.length := by simp
  have eB : bkF f = f.map downN := by unfold bkF; rw [addF_book hbk]
  have eR : rtF f = f.length - 1 := by
    unfold rtF
    rw [addF_book hbk, nA]
    simp only
    rw [List.getD_eq_getElem?_getD, List.getElem?_range (by have := hf1.1; omega)]; rfl
  have h0 := hf1.1
  have h120 := hf1.2.1
  go_enter Try.func77, Try.ntmps77
  have k1 : (w.alloc (.cells #[va] 28)).cell? ⟨w.heap.size, 0, none⟩ = some va := by go_simp
  have hb : Below w.heap.size w (w.alloc (.cells #[va] 28)) := (Below.refl _ _).alloc (Nat.le_refl _) _
  go_upto_region 1 with fail
  generalize (w.alloc (.cells #[va] 28)) = W at k1 hb
  have hwz := hb.size
  have HB := Lib.hid hb
  have CR := Lib.hid fun X hX => rootNil_calls va f W lo hi (by omega) (hva.below hb hh) hf1 hf2 X hX
  have hba : Below W.heap.size W (W.alloc (.cells #[.slice none 0 0, .slice none 0 0] 107)) := (Below.refl _ _).alloc (Nat.le_refl _) _
  have d1 := (bcell hba _ _ (block_of_cell k1)).trans k1
  clear hva hb hg hf2 hbk
  go_wp2_with fail
  refine (CR.out _ (Below.refl _ _)).mono ?_
  rintro e w4 ⟨rfl, ⟨vn, vbb, vs, hK⟩, hb4⟩
  have HB4 := Lib.hid (HB.out.trans (hb4.mono hwz))
  rw [eB] at hK
  rw [eR]
  have HK := Lib.hid hK
  have CO := Lib.hid (l4Of_calls W.heap.size W.heap.size (f.map downN) (bornsOf (f.map downN)) vn vbb vs w4 hK (by rw [nA]; exact h0) (by rw [nA]; omega))
  have hs4 := HB4.out.size
  clear hK hb4 d1 hba CR eB eR
  go_wp2_with fail
  refine CO.out.mono ?_
  rintro e w5 ⟨O, g, n, rfl, hod, hrow, hb5⟩
  have HO := Lib.hid hod
  have HR := Lib.hid hrow
  have HB5 := Lib.hid (HB4.out.trans (hb5.mono hs4))
  clear hod hrow hb5 CO
  go_wp2_with fail
  exact bodyPost_ret (v := .tuple #[.pointer (some ⟨O, 0, none⟩), .int .i64 (f.length - 1 : Nat)]) (by simp [results, Try.results77, go_sem]) rfl ⟨W.heap.size, O, W.heap.size, g, n, vn, vbb, vs, rfl, HO.out, ⟨_, Rt.zero _ _ _, HR.out, Only.refl _ _⟩, by omega, by have := (World.ownsRow.lt HR.out g rfl).1; omega, HB5.out⟩

/-- what l6Through gives -/
def thrV (res : Option Nat) : Int := match res with | some r => (r : Int) | none => -1

theorem ans_left {A : List Nd} (h : Book A) {i o : Nat} {x : Nd} (hi : i < A.length) (hx : A[o]? = some x) : ansK A i o true = x.2.find? (fun r => geF A i r) := by
  unfold ansK optsD
  rw [nodeD_at hx]
  simp only [Bool.not_true, Bool.false_eq_true, if_false]
  have hu := h.struct.under
  have : ∀ (L : List Nat), (∀ r ∈ L, r < A.length) → L.find? (fun r => !winF A A i r false) = L.find? (fun r => geF A i r) := fun L hL => by
    induction L with
    | nil => rfl
    | cons a t ih => rw [List.find?_cons, List.find?_cons, (ge_self h i a hi (hL a (by simp))).1, ih (fun r hr => hL r (by simp [hr]))]
  exact this _ (fun r hr => by have := hu o x hx r (Or.inr hr); have := get_lt hx; omega)

theorem ans_right {A : List Nd} (h : Book A) {i o : Nat} {x : Nd} (hi : i < A.length) (hx : A[o]? = some x) : ansK A i o false = x.1.find? (fun r => geF A r i) := by
  unfold ansK optsD
  rw [nodeD_at hx]
  simp only [Bool.not_false, if_true]
  have hu := h.struct.under
  have : ∀ (L : List Nat), (∀ r ∈ L, r < A.length) → L.find? (fun r => !winF A A i r true) = L.find? (fun r => geF A r i) := fun L hL => by
    induction L with
    | nil => rfl
    | cons a t ih => rw [List.find?_cons, List.find?_cons, (ge_self h i a hi (hL a (by simp))).2, ih (fun r hr => hL r (by simp [hr]))]
  exact this _ (fun r hr => by have := hu o x hx r (Or.inl hr); have := get_lt hx; omega)

set_option maxRecDepth 100000 in
set_option maxHeartbeats 4000000 in
theorem through_calls (base O B g n : Nat) (C : List Nd) (bs : List Nat) (vn vb : Value) (vs : List (Value × Value)) (hB : Book C) (hCl : C.length ≤ 1000) (x o : Nat) (hx : x < C.length) (ho : o < C.length) (l : Bool) (res : Option Nat) (hres : Hid (ansK C x o l = res)) (w w0 : World)
    (h : Od w0 base O B g n C bs vn vb vs) (ha : AskM base g n C w w0) :
    Calls Try.prog 116 #[.pointer (some ⟨O, 0, none⟩), .int .i64 x, .int .i64 o, .bool l] w0 fun e w' => e = .returned (.int .i64 (thrV res)) ∧ AskM base g n C w w' := by
  obtain ⟨nd, hnd⟩ := lt_get ho
  have HND := Lib.hid hnd
  have hC := hB.struct.under
  have HL1 : Hid (∀ r, r ∈ nd.1 ∨ r ∈ nd.2 → r < C.length) := Lib.hid (fun r hr => by have := hC o nd hnd r hr; omega)
  have HG := Lib.hid fun (y z : Nat) (hy : y < C.length) (hz : z < C.length) (r : Bool) (hr : geF C y z = r) (W : World) (hO : Od W base O B g n C bs vn vb vs) (hA : AskM base g n C w W) => geqM_calls base O B g n C bs vn vb vs hC hCl y z hy hz r hr w W hO hA
  have HT0 := Lib.hid ha
  have HO0 := Lib.hid h
  have xI : (o : Int) < C.length := by omega
  have x0 : (0 : Int) ≤ o := by omega
  cases l with
  | true =>
    have HF : Hid (nd.2.find? (fun r => geF C x r) = res) := Lib.hid (by rw [← ans_left hB hx hnd]; exact hres.out)
    have k0 := h.c0
    have kb := h.bk.c0
    obtain ⟨gn, cn, ⟨a1, a2⟩, hvn, hvs, q1, q2, in1, in2⟩ := h.bk.node hnd
    simp only at q1 q2 in1 in2
    rw [hvn] at kb
    have nl := inner_len in2
    obtain ⟨b, off, cc, rfl, _, hnF, _⟩ := in2
    have HVS := Lib.hid hvs
    have hNb : b < w0.heap.size ∨ True := Or.inr trivial
    have hNb : ∀ {W : World}, b < W.heap.size → ¬ b = g := fun _ e => hnF (Or.inr e)
    clear hnd h ha hres hvn hvs
    go_enter Try.func116, Try.ntmps116
    go_wp2
    go_loopw [10] (fun q wr => ∃ k : Nat, k ≤ nd.2.length ∧ q = .int .i64 k ∧ Hid ((nd.2.take k).any (fun r => geF C x r) = false) ∧ Hid (AskM base g n C w wr) ∧ Hid (Od wr base O B g n C bs vn vb vs)) (fun q _ => nd.2.length - (intOf q).toNat)
    case atStart => exact ⟨0, Nat.zero_le _, rfl, Lib.hid (by simp), HT0, HO0⟩
    case round =>
      obtain ⟨k, hk, rfl, hany, ha, hc⟩ := hrel
      clear HT0 HO0
      by_cases hlt : k < nd.2.length
      · obtain ⟨r, hr⟩ := lt_get hlt
        have hrx := HL1.out r (Or.inr (List.mem_of_getElem? hr))
        obtain ⟨b', off', c', e1, hbb, hcell⟩ := inner_cell ((hc.out.bk.inner o nd _ HND.out HVS.out).2) hr
        have e9 : b = b' ∧ off = off' := by
          injection e1 with e1 _ _
          injection e1 with e1
          injection e1 with e1 e2 _
          exact ⟨e1, e2⟩
        obtain ⟨rfl, rfl⟩ := e9
        clear e1
        obtain ⟨t, ht⟩ : ∃ t, geF C x r = t := ⟨_, rfl⟩
        have CC := Lib.hid (HG.out x r hx hrx t ht wr hc.out ha.out)
        have HR := Lib.hid hr
        have HT := Lib.hid ht
        have r0 : (0 : Int) ≤ k := by omega
        have r1 : (k : Int) < nd.2.length := by omega
        clear hr ht
        cases t with
        | true =>
          have RR : Hid (res = some r) := Lib.hid (by rw [← HF.out]; exact find_at nd.2 _ k r HR.out hany.out HT.out)
          go_wp2_with fail
          refine CC.out.mono ?_
          rintro e w2 ⟨rfl, ha2⟩
          have A2 := Lib.hid (ha.out.trans ha2)
          have hcell := (ha2.only.cell (o := off + k) hbb (hNb hbb)).trans hcell
          clear ha2 CC
          go_wp2_with fail
          go_ret
          exact ⟨by rw [RR.out]; rfl, A2.out⟩
        | false =>
          have RR : Hid ((nd.2.take (k + 1)).any (fun r => geF C x r) = false) := Lib.hid (any_take_false nd.2 _ k r HR.out hany.out HT.out)
          go_wp2_with fail
          refine CC.out.mono ?_
          rintro e w2 ⟨rfl, ha2⟩
          have A2 := Lib.hid (ha.out.trans ha2)
          have O2 := Lib.hid (hc.out.only ha2.only)
          clear ha2 CC
          go_wp2_with fail
          go_roundw
          case rel => exact ⟨k + 1, by omega, by go_num, RR, A2, O2⟩
          case measure => simp [intOf]; omega
      · have RR : Hid (res = none) := Lib.hid (by
          rw [← HF.out]
          have := hany.out
          rw [List.take_of_length_le (by omega)] at this
          exact find_none nd.2 _ this)
        have A2 := Lib.hid ha.out
        clear hany ha hc HL1 HG
        go_wp2_with fail
        go_ret
        exact ⟨by rw [RR.out]; rfl, A2.out⟩
  | false =>
    have HF : Hid (nd.1.find? (fun r => geF C r x) = res) := Lib.hid (by rw [← ans_right hB hx hnd]; exact hres.out)
    have k0 := h.c0
    have kb := h.bk.c0
    obtain ⟨gn, cn, ⟨a1, a2⟩, hvn, hvs, q1, q2, in1, in2⟩ := h.bk.node hnd
    simp only at q1 q2 in1 in2
    rw [hvn] at kb
    have nl := inner_len in1
    obtain ⟨b, off, cc, rfl, _, hnF, _⟩ := in1
    have HVS := Lib.hid hvs
    have hNb : b < w0.heap.size ∨ True := Or.inr trivial
    have hNb : ∀ {W : World}, b < W.heap.size → ¬ b = g := fun _ e => hnF (Or.inr e)
    clear hnd h ha hres hvn hvs
    go_enter Try.func116, Try.ntmps116
    go_wp2
    go_loopw [12] (fun q wr => ∃ k : Nat, k ≤ nd.1.length ∧ q = .int .i64 k ∧ Hid ((nd.1.take k).any (fun r => geF C r x) = false) ∧ Hid (AskM base g n C w wr) ∧ Hid (Od wr base O B g n C bs vn vb vs)) (fun q _ => nd.1.length - (intOf q).toNat)
    case atStart => exact ⟨0, Nat.zero_le _, rfl, Lib.hid (by simp), HT0, HO0⟩
    case round =>
      obtain ⟨k, hk, rfl, hany, ha, hc⟩ := hrel
      clear HT0 HO0
      by_cases hlt : k < nd.1.length
      · obtain ⟨r, hr⟩ := lt_get hlt
        have hrx := HL1.out r (Or.inl (List.mem_of_getElem? hr))
        obtain ⟨b', off', c', e1, hbb, hcell⟩ := inner_cell ((hc.out.bk.inner o nd _ HND.out HVS.out).1) hr
        have e9 : b = b' ∧ off = off' := by
          injection e1 with e1 _ _
          injection e1 with e1
          injection e1 with e1 e2 _
          exact ⟨e1, e2⟩
        obtain ⟨rfl, rfl⟩ := e9
        clear e1
        obtain ⟨t, ht⟩ : ∃ t, geF C r x = t := ⟨_, rfl⟩
        have CC := Lib.hid (HG.out r x hrx hx t ht wr hc.out ha.out)
        have HR := Lib.hid hr
        have HT := Lib.hid ht
        have r0 : (0 : Int) ≤ k := by omega
        have r1 : (k : Int) < nd.1.length := by omega
        clear hr ht
        cases t with
        | true =>
          have RR : Hid (res = some r) := Lib.hid (by rw [← HF.out]; exact find_at nd.1 _ k r HR.out hany.out HT.out)
          go_wp2_with fail
          refine CC.out.mono ?_
          rintro e w2 ⟨rfl, ha2⟩
          have A2 := Lib.hid (ha.out.trans ha2)
          have hcell := (ha2.only.cell (o := off + k) hbb (hNb hbb)).trans hcell
          clear ha2 CC
          go_wp2_with fail
          go_ret
          exact ⟨by rw [RR.out]; rfl, A2.out⟩
        | false =>
          have RR : Hid ((nd.1.take (k + 1)).any (fun r => geF C r x) = false) := Lib.hid (any_take_false nd.1 _ k r HR.out hany.out HT.out)
          go_wp2_with fail
          refine CC.out.mono ?_
          rintro e w2 ⟨rfl, ha2⟩
          have A2 := Lib.hid (ha.out.trans ha2)
          have O2 := Lib.hid (hc.out.only ha2.only)
          clear ha2 CC
          go_wp2_with fail
          go_roundw
          case rel => exact ⟨k + 1, by omega, by go_num, RR, A2, O2⟩
          case measure => simp [intOf]; omega
      · have RR : Hid (res = none) := Lib.hid (by
          rw [← HF.out]
          have := hany.out
          rw [List.take_of_length_le (by omega)] at this
          exact find_none nd.1 _ this)
        have A2 := Lib.hid ha.out
        clear hany ha hc HL1 HG
        go_wp2_with fail
        go_ret
        exact ⟨by rw [RR.out]; rfl, A2.out⟩
end

section
open Go.RowKit
set_option linter.unusedVariables false
set_option linter.unusedSimpArgs false

/-- the order of a book beside rows of the call's own, which grow from a block on -/
structure OdN (N : Nat) (w : World) (base O B g n : Nat) (C : List Nd) (bs : List Nat) (vn vb : Value) (vs : List (Value × Value)) : Prop where
  c0 : w.cell? ⟨O, 0, none⟩ = some (.pointer (some ⟨B, 0, none⟩))
  c1 : w.cell? ⟨O, 1, none⟩ = some (.slice (some ⟨g, 0, none⟩) n n)
  bk : Bk base w B C bs vn vb vs (fun b => b = g ∨ N ≤ b)
  hO : O ≠ g
  hF : ¬ Foot B vn vb g
  lO : O < N
  lF : ∀ b, Foot B vn vb b → b < N

theorem OdN.od {N : Nat} {w : World} {base O B g n : Nat} {C : List Nd} {bs : List Nat} {vn vb : Value} {vs : List (Value × Value)} (h : OdN N w base O B g n C bs vn vb vs) : Od w base O B g n C bs vn vb vs :=
  ⟨h.c0, h.c1, h.bk.reX (fun _ _ e => Or.inl e), h.hO, h.hF⟩

theorem Od.toN {w : World} {base O B g n : Nat} {C : List Nd} {bs : List Nat} {vn vb : Value} {vs : List (Value × Value)} (h : Od w base O B g n C bs vn vb vs) : OdN w.heap.size w base O B g n C bs vn vb vs :=
  ⟨h.c0, h.c1, h.bk.reX (fun b hb e => by rcases e with e | e; exact e; omega), h.hO, h.hF, block_of_cell h.c0, fun b hb => (h.bk.lt b hb).2⟩

theorem OdN.only {N : Nat} {w w' : World} {base O B g n : Nat} {C : List Nd} {bs : List Nat} {vn vb : Value} {vs : List (Value × Value)} (h : OdN N w base O B g n C bs vn vb vs) (ho : Only w w' (fun b => b = g ∨ N ≤ b)) : OdN N w' base O B g n C bs vn vb vs := by
  have hO := block_of_cell h.c0
  have h1 := h.hO
  have h2 := h.lO
  exact ⟨(ho.cell hO (by omega)).trans h.c0, (ho.cell hO (by omega)).trans h.c1, h.bk.only ho (fun b hb e => by
    rcases e with e | e
    · exact h.hF (e ▸ hb)
    · have := h.lF b hb; omega), h.hO, h.hF, h.lO, h.lF⟩

theorem AskM.self {base g n : Nat} {C : List Nd} {w w1 : World} (h : AskM base g n C w w1) : AskM base g n C w1 w1 := by
  obtain ⟨cs, k1, k2, _⟩ := h
  exact ⟨cs, k1, k2, Only.refl _ _⟩

theorem AskM.far {base g n N : Nat} {C : List Nd} {w w1 w2 : World} (h : AskM base g n C w w1) (ho : Only w1 w2 (fun b => N ≤ b)) (hg : g < N) (hN : w.heap.size ≤ N) : AskM base g n C w w2 := by
  obtain ⟨cs, k1, k2, k3⟩ := h
  exact ⟨cs, k1, own_only k2 ho (fun b e h2 => by have e2 := own_eqv e; omega), k3.trans ho (fun i h1 h2 => by omega)⟩

set_option maxRecDepth 100000 in
set_option maxHeartbeats 4000000 in
theorem reversibleS_calls (base O B g n : Nat) (C : List Nd) (bs : List Nat) (vn vb : Value) (vs : List (Value × Value)) (hB : Book C) (hCl : C.length ≤ 1000) (x : Nat) (hx : x < C.length) (l : Bool) (vl : Value) (Lo : List Nat) (ms : List Int)
    (hLo : ∀ o, o ∈ Lo → o < C.length) (hL24 : Lo.length ≤ 1000) (w w0 : World) (N : Nat) (hNw : w.heap.size ≤ N) (hN0 : N ≤ w0.heap.size) (hgN : g < N)
    (HIN : Hid (∀ W, OdN N W base O B g n C bs vn vb vs → InnerZ W (fun b => Foot B vn vb b ∨ (b = g ∨ N ≤ b)) vl Lo)) (HM : Hid (revG C Lo x l Lo.length = ms))
    (h : OdN N w0 base O B g n C bs vn vb vs) (ha : AskM base g n C w w0) :
    Calls Try.prog 82 #[.pointer (some ⟨O, 0, none⟩), .int .i64 x, vl, .bool l] w0 fun e w' => ∃ v, e = .returned v ∧ OwnI w' w0.heap.size v ms ∧ AskM base g n C w w' ∧ Only w0 w' (fun b => b = g ∨ w0.heap.size ≤ b) := by
  obtain ⟨i0, hi0, hz0, hz1, hz2⟩ := info_parts infoIntA
  obtain ⟨b, off, cc, rfl, _, hnF, _⟩ := HIN.out w0 h
  have hal : Below w0.heap.size w0 (w0.alloc (.cells #[] 3)) := (Below.refl _ _).alloc (Nat.le_refl _) _
  have HL1 : Hid (∀ o, o ∈ Lo → o < C.length) := Lib.hid hLo
  have HO0 : Hid (OwnI (w0.alloc (.cells #[] 3)) w0.heap.size (.slice (some ⟨w0.heap.size, 0, none⟩) 0 0) (revG C Lo x l 0)) := Lib.hid (World.ownsRow_lit (base := w0.heap.size) (e := 3) (size := 1) w0 #[] 0 (Nat.le_refl _) (by unfold maxLen; omega) rfl)
  have HD0 := Lib.hid (h.only (Only.of_below hal))
  have HA0 := Lib.hid (ha.below hal)
  have HP0 : Hid (Only w0 (w0.alloc (.cells #[] 3)) (fun b => b = g ∨ w0.heap.size ≤ b)) := Lib.hid (Only.of_below hal)
  have hs0 : w0.heap.size ≤ (w0.alloc (.cells #[] 3)).heap.size := by simp
  have CT := Lib.hid fun (o : Nat) (ho : o < C.length) (r : Option Nat) (hr : ansK C x o l = r) (W : World) (hO : OdN N W base O B g n C bs vn vb vs) (hA : AskM base g n C w W) => through_calls base O B g n C bs vn vb vs hB hCl x o hx ho l r (Lib.hid hr) W W hO.od hA.self
  clear h ha hal hLo
  go_enter Try.func82, Try.ntmps82
  go_wp2
  generalize w0.alloc (.cells #[] 3) = W0 at HO0 HD0 HA0 HP0 hs0 ⊢
  go_loopw [9, 10] (fun q i wr => ∃ k : Nat, k ≤ Lo.length ∧ i = .int .i64 k ∧ Hid (OwnI wr w0.heap.size q (revG C Lo x l k)) ∧ Hid (AskM base g n C w wr) ∧ Hid (OdN N wr base O B g n C bs vn vb vs) ∧ Hid (Only w0 wr (fun b => b = g ∨ w0.heap.size ≤ b)) ∧ w0.heap.size ≤ wr.heap.size) (fun _ i _ => Lo.length - (intOf i).toNat)
  case atStart => exact ⟨0, Nat.zero_le _, rfl, HO0, HA0, HD0, HP0, hs0⟩
  case round =>
    obtain ⟨k, hk, rfl, hown, ha, hd, hp, hsz⟩ := hrel
    clear HO0 HA0 HD0 HP0 hs0
    by_cases hlt : k < Lo.length
    · obtain ⟨o, ho⟩ := lt_get hlt
      have hoi := HL1.out o (List.mem_of_getElem? ho)
      obtain ⟨b', off', c', e1, hbb, hcell⟩ := inner_cell (HIN.out wr hd.out) ho
      have e9 : b = b' ∧ off = off' := by
        injection e1 with e1 _ _
        injection e1 with e1
        injection e1 with e1 e2 _
        exact ⟨e1, e2⟩
      obtain ⟨rfl, rfl⟩ := e9
      clear e1
      obtain ⟨r, hr⟩ : ∃ r, ansK C x o l = r := ⟨_, rfl⟩
      have HS := Lib.hid (revG_succ C Lo x l k o r ho hr)
      have CC := Lib.hid (CT.out o hoi r hr wr hd.out ha.out)
      clear ho hr
      have b0 : (0 : Int) ≤ k := by omega
      have b1' : (k : Int) < Lo.length := by omega
      cases r with
      | none =>
        have HS2 : Hid (revG C Lo x l (k + 1) = revG C Lo x l k) := Lib.hid (by rw [HS.out]; simp)
        clear HS
        go_wp2_with fail
        refine CC.out.mono ?_
        rintro e w2 ⟨rfl, ha2⟩
        have ho2 := ha2.only
        have A2 := Lib.hid (ha.out.trans ha2)
        have D2 := Lib.hid (hd.out.only (ho2.mono (fun _ _ e => Or.inl e)))
        have P2 := Lib.hid (hp.out.trans (ho2.mono (fun _ _ e => Or.inl e)) (fun _ _ h => h))
        have O2 : Hid (OwnI w2 w0.heap.size u9 (revG C Lo x l (k + 1))) := Lib.hid (by rw [HS2.out]; exact hown.out.only ho2 (fun g h e => by have := hown.out.lt g h; omega))
        have hs2 := ho2.size
        clear ha2 ho2 hown ha hd hp CC HS2
        unfold thrV
        go_wp2_with fail
        go_roundw
        case rel => exact ⟨k + 1, by omega, by go_num, O2, A2, D2, P2, by omega⟩
        case measure => simp [intOf]; omega
      | some y =>
        have HS2 : Hid (revG C Lo x l (k + 1) = revG C Lo x l k ++ [(k : Int)]) := Lib.hid (by rw [HS.out]; simp)
        clear HS
        have y0 : (0 : Int) ≤ y := by omega
        go_wp2_with fail
        refine CC.out.mono ?_
        rintro e w2 ⟨rfl, ha2⟩
        have ho2 := ha2.only
        have A2 := Lib.hid (ha.out.trans ha2)
        have D2 := Lib.hid (hd.out.only (ho2.mono (fun _ _ e => Or.inl e)))
        have P2 := Lib.hid (hp.out.trans (ho2.mono (fun _ _ e => Or.inl e)) (fun _ _ h => h))
        have O2 : Hid (OwnI w2 w0.heap.size u9 (revG C Lo x l k)) := Lib.hid (hown.out.only ho2 (fun g h e => by have := hown.out.lt g h; omega))
        have hs2 := ho2.size
        have hml := revG_len C Lo x l k
        clear ha2 ho2 hown ha hd hp CC
        unfold thrV
        go_wp2_with (at_builtin; refine wpList_append_own_at _ rfl _ _ 35 rfl w0.heap.size 3 i0 (.int .i64 0) 1 8 Try.underlying35 hi0 hz0 hz1 hz2 rfl (by decide) _ _ _ rfl (World.ownsRow.alloc O2.out _) ⟨w2.heap.size, 0, none⟩ 1 1 [.int .i64 (k : Int)] rfl rfl ?e1 ?e2 ?e3 ?e4 ?e5 ?_)
        case e1 => exact World.news_of_block (heap_alloc_new _ _)
        case e2 => first | rfl | (intro u hu; simp at hu; subst hu; rfl)
        case e3 => unfold maxLen; omega
        case e4 => omega
        case e5 => simp; omega
        intro v6 w6 hown6 hgrow6 hnil6 hat6
        have O6 : Hid (OwnI w6 w0.heap.size v6 (revG C Lo x l (k + 1))) := Lib.hid (by rw [HS2.out]; unfold OwnI; rw [List.map_append, List.length_append]; exact hown6)
        have hfar : Only w2 w6 (fun b => w0.heap.size ≤ b) := (Only.of_below (F := fun b => w0.heap.size ≤ b) ((Below.refl _ _).alloc (Nat.le_refl _) _)).trans (Only.of_grown (F := fun b => w0.heap.size ≤ b) hgrow6 (fun g e => (O2.out.lt g e).1)) (fun _ _ h => h)
        have A6 := Lib.hid (A2.out.far hfar (by omega) (by omega))
        have D6 := Lib.hid (D2.out.only (hfar.mono (fun i _ e => Or.inr (by omega))))
        have P6 := Lib.hid (P2.out.trans (hfar.mono (fun _ _ e => Or.inr e)) (fun _ _ h => h))
        have hs6 := hfar.size
        clear hown6 hgrow6 hnil6 hat6 hfar A2 D2 P2 O2 HS2
        go_wp2_with fail
        go_roundw
        case rel => exact ⟨k + 1, by omega, by go_num, O6, A6, D6, P6, by omega⟩
        case measure => simp [intOf]; omega
    · have hke : k = Lo.length := by omega
      subst hke
      rw [HM.out] at hown
      clear hd HM HL1 CT HIN
      go_wp2_with fail
      go_ret
      exact ⟨_, rfl, hown.out, ha.out, hp.out⟩
end

section
open Go.RowKit
set_option linter.unusedVariables false
set_option linter.unusedSimpArgs false

theorem putN_last : ∀ (L : List Nat) (n : Nat), (∀ x ∈ L, x < n) → putN L n = L ++ [n] ∧ putN (L ++ [n]) n = L ++ [n]
  | [], n, _ => by simp [putN]
  | a :: t, n, h => by
    have ha := h a (by simp)
    obtain ⟨i1, i2⟩ := putN_last t n (fun x hx => h x (by simp [hx]))
    constructor
    · simp [putN, ha, i1]
    · simp [putN, ha, i2]

def domS (A : List Nd) (Lo : List Nat) (l : Bool) (k q : Nat) : List Nat := domL A Lo l k ++ if domP A Lo l k q then [k] else []
theorem domS_zero (A : List Nd) (Lo : List Nat) (l : Bool) (k : Nat) : domS A Lo l k 0 = domL A Lo l k := by unfold domS; rw [domP_zero]; simp
theorem domS_end (A : List Nd) (Lo : List Nat) (l : Bool) (k : Nat) : domS A Lo l k Lo.length = domL A Lo l (k + 1) := by unfold domS; rw [domL_succ]
theorem domL_lt (A : List Nd) (Lo : List Nat) (l : Bool) (k : Nat) : ∀ x ∈ domL A Lo l k, x < k := fun x hx => by
  unfold domL at hx
  simpa using (List.mem_filter.1 hx).1
theorem domL_len (A : List Nd) (Lo : List Nat) (l : Bool) (k : Nat) : (domL A Lo l k).length ≤ k := by
  unfold domL
  exact Nat.le_trans (List.length_filter_le _ _) (by simp)
theorem domS_len (A : List Nd) (Lo : List Nat) (l : Bool) (k q : Nat) : (domS A Lo l k q).length ≤ k + 1 := by
  have := domL_len A Lo l k
  unfold domS
  split <;> simp <;> omega
theorem domS_put {A : List Nd} {Lo : List Nat} {l : Bool} {k q : Nat} (h : domC A Lo l k q = true) : putN (domS A Lo l k q) k = domS A Lo l k (q + 1) := by
  obtain ⟨h1, h2⟩ := putN_last _ _ (domL_lt A Lo l k)
  unfold domS
  rw [domP_succ, h]
  cases domP A Lo l k q
  · simpa using h1
  · simpa using h2
theorem domS_no {A : List Nd} {Lo : List Nat} {l : Bool} {k q : Nat} (h : domC A Lo l k q = false) : domS A Lo l k (q + 1) = domS A Lo l k q := by
  unfold domS
  rw [domP_succ, h]
  simp

/-- as the model asks -/
theorem domC_model {A : List Nd} (hB : Book A) {Lo : List Nat} {l : Bool} {p q o r : Nat} {more less : Bool} (ho : Lo[p]? = some o) (hr : Lo[q]? = some r) (hol : o < A.length) (hrl : r < A.length) (h1 : geF A r o = more) (h2 : geF A o r = less) :
    domC A Lo l p q = (decide (q ≠ p) && ((if l then more else less) && (!(if l then less else more) || decide (q < p)))) := by
  have e1 : Lo.getD p 0 = o := by rw [List.getD_eq_getElem?_getD, ho]; rfl
  have e2 : Lo.getD q 0 = r := by rw [List.getD_eq_getElem?_getD, hr]; rfl
  have g := ge_self hB r o hrl hol
  unfold domC domB
  rw [e1, e2, ← g.1, ← g.2, h1, h2]

/-- a list of the call's own, whichever block it lies in -/
structure LstZ (w : World) (lo : Nat) (v : Value) (L : List Nat) : Prop where
  ex : ∃ b off c, v = .slice (some ⟨b, off, none⟩) L.length c ∧ lo ≤ b ∧ b < w.heap.size
  ints : IntsZ w lo w.heap.size v (upL L)

theorem LstZ.only {w w' : World} {lo g : Nat} {v : Value} {L : List Nat} (h : LstZ w lo v L) (ho : Only w w' (fun b => b = g)) (hg : g < lo) : LstZ w' lo v L := by
  obtain ⟨b, off, c, e, h1, h2⟩ := h.ex
  exact ⟨⟨b, off, c, e, h1, Nat.lt_of_lt_of_le h2 ho.size⟩, (h.ints.keep (fun b o e1 e2 => ho.cell e2 (by omega))).wide (Nat.le_refl _) ho.size⟩
theorem LstZ.below {w w' : World} {lo : Nat} {v : Value} {L : List Nat} (h : LstZ w lo v L) (hb : Below w.heap.size w w') : LstZ w' lo v L := by
  obtain ⟨b, off, c, e, h1, h2⟩ := h.ex
  exact ⟨⟨b, off, c, e, h1, Nat.lt_of_lt_of_le h2 hb.size⟩, (h.ints.below hb (Nat.le_refl _)).wide (Nat.le_refl _) hb.size⟩

set_option maxRecDepth 100000 in
set_option maxHeartbeats 8000000 in
theorem dominatedS_calls (base O B g n : Nat) (C : List Nd) (bs : List Nat) (vn vb : Value) (vs : List (Value × Value)) (hB : Book C) (hCl : C.length ≤ 1000) (l : Bool) (vl : Value) (Lo : List Nat)
    (hLo : ∀ o, o ∈ Lo → o < C.length) (hL24 : Lo.length ≤ 1000) (w w0 : World) (N : Nat) (hNw : w.heap.size ≤ N) (hN0 : N ≤ w0.heap.size) (hgN : g < N)
    (HIN : Hid (∀ W, OdN N W base O B g n C bs vn vb vs → InnerZ W (fun b => Foot B vn vb b ∨ (b = g ∨ N ≤ b)) vl Lo))
    (h : OdN N w0 base O B g n C bs vn vb vs) (ha : AskM base g n C w w0) :
    Calls Try.prog 78 #[.pointer (some ⟨O, 0, none⟩), vl, .bool l] w0 fun e w' => ∃ v, e = .returned v ∧ LstZ w' w0.heap.size v (domL C Lo l Lo.length) ∧ AskM base g n C w w' ∧ Only w0 w' (fun b => b = g ∨ w0.heap.size ≤ b) := by
  obtain ⟨b, off, cc, rfl, _, hnF, _⟩ := HIN.out w0 h
  have hal : Below w0.heap.size w0 (w0.alloc (.cells #[] 3)) := (Below.refl _ _).alloc (Nat.le_refl _) _
  have HL1 : Hid (∀ o, o ∈ Lo → o < C.length) := Lib.hid hLo
  have HO0 : Hid (LstZ (w0.alloc (.cells #[] 3)) w0.heap.size (.slice (some ⟨w0.heap.size, 0, none⟩) 0 0) []) := Lib.hid ⟨⟨_, _, _, rfl, Nat.le_refl _, by simp⟩, (show OwnI _ w0.heap.size (.slice (some ⟨w0.heap.size, 0, none⟩) 0 0) [] from World.ownsRow_lit (base := w0.heap.size) (e := 3) (size := 1) w0 #[] 0 (Nat.le_refl _) (by unfold maxLen; omega) rfl).ints⟩
  have HD0 := Lib.hid (h.only (Only.of_below hal))
  have HA0 := Lib.hid (ha.below hal)
  have HP0 : Hid (Only w0 (w0.alloc (.cells #[] 3)) (fun b => b = g ∨ w0.heap.size ≤ b)) := Lib.hid (Only.of_below hal)
  have hs0 : w0.heap.size ≤ (w0.alloc (.cells #[] 3)).heap.size := by simp
  have HBK := Lib.hid hB
  have CT := Lib.hid fun (x y : Nat) (hx : x < C.length) (hy : y < C.length) (r : Bool) (hr : geF C x y = r) (W : World) (hd : Hid (OdN N W base O B g n C bs vn vb vs ∧ AskM base g n C w W)) =>
    (geqM_calls base O B g n C bs vn vb vs hB.struct.under hCl x y hx hy r hr W W hd.out.1.od hd.out.2.self).mono fun e w' hp => (⟨hp.1, Lib.hid ⟨hd.out.1.only (hp.2.only.mono (fun _ _ e => Or.inl e)), hd.out.2.trans hp.2⟩, hp.2.only⟩ : e = .returned (.bool r) ∧ Hid (OdN N w' base O B g n C bs vn vb vs ∧ AskM base g n C w w') ∧ Only W w' (fun b => b = g))
  have hbg : ¬ b = g := fun e => hnF (Or.inr (Or.inl e))
  clear h ha hal hLo hB
  cases l with
  | false =>
    go_enter Try.func78, Try.ntmps78
    go_wp2
    generalize w0.alloc (.cells #[] 3) = W0 at HO0 HD0 HA0 HP0 hs0 ⊢
    go_loopg [7, 8] Lo.length (fun nn v i wr => ∃ k : Nat, nn + k = Lo.length ∧ i = .int .i64 k ∧ Hid (LstZ wr w0.heap.size v (domL C Lo false k)) ∧ Hid (OdN N wr base O B g n C bs vn vb vs ∧ AskM base g n C w wr) ∧ Hid (Only w0 wr (fun b => b = g ∨ w0.heap.size ≤ b)) ∧ w0.heap.size ≤ wr.heap.size)
    case atStart => exact ⟨0, by omega, rfl, HO0, Lib.hid ⟨HD0.out, HA0.out⟩, HP0, hs0⟩
    case round =>
      obtain ⟨k, hgk, rfl, hown, hd, hp, hsz⟩ := hrel
      clear HO0 HA0 HD0 HP0 hs0
      by_cases hlt : k < Lo.length
      · obtain ⟨n0, rfl⟩ : ∃ n0, gk = n0 + 1 := ⟨gk - 1, by omega⟩
        obtain ⟨o, ho⟩ := lt_get hlt
        have hoi := HL1.out o (List.mem_of_getElem? ho)
        have HO := Lib.hid ho
        have b0 : (0 : Int) ≤ k := by omega
        have b1' : (k : Int) < Lo.length := by omega
        have hown2 := hown
        rw [← domS_zero C Lo false k] at hown2
        clear ho hown
        go_wp2
        go_loopg [7, 9] Lo.length (fun n2 v j wy => ∃ q : Nat, n2 + q = Lo.length ∧ j = .int .i64 q ∧ Hid (LstZ wy w0.heap.size v (domS C Lo false k q)) ∧ Hid (OdN N wy base O B g n C bs vn vb vs ∧ AskM base g n C w wy) ∧ Hid (Only w0 wy (fun b => b = g ∨ w0.heap.size ≤ b)) ∧ w0.heap.size ≤ wy.heap.size)
        case atStart => exact ⟨0, by omega, rfl, hown2, hd, hp, hsz⟩
        case round =>
          clear hown2 hd hp hsz
          obtain ⟨q, hgq, rfl, hown, hd, hp, hsz⟩ := hrel
          by_cases hql : q < Lo.length
          · obtain ⟨n1, rfl⟩ : ∃ n1, gk = n1 + 1 := ⟨gk - 1, by omega⟩
            obtain ⟨r, hr⟩ := lt_get hql
            have hri := HL1.out r (List.mem_of_getElem? hr)
            have hin := HIN.out _ hd.out.1
            obtain ⟨b2, off2, c2, e2, hbb2, hcell2⟩ := inner_cell hin hr
            obtain ⟨b3, off3, c3, e3, hbb3, hcell3⟩ := inner_cell hin HO.out
            have e9 : b = b2 ∧ off = off2 := by
              injection e2 with e2 _ _
              injection e2 with e2
              injection e2 with e2 e4 _
              exact ⟨e2, e4⟩
            have e8 : b = b3 ∧ off = off3 := by
              injection e3 with e3 _ _
              injection e3 with e3
              injection e3 with e3 e4 _
              exact ⟨e3, e4⟩
            obtain ⟨rfl, rfl⟩ := e9
            obtain ⟨rfl, rfl⟩ := e8
            clear e2 e3 hin hbb3
            obtain ⟨more, h1⟩ : ∃ more, geF C r o = more := ⟨_, rfl⟩
            obtain ⟨less, h2⟩ : ∃ less, geF C o r = less := ⟨_, rfl⟩
            have HDC := Lib.hid (domC_model HBK.out (l := false) HO.out hr hoi hri h1 h2)
            have C1 := Lib.hid (fun W hd => CT.out r o hri hoi more h1 W hd)
            have C2 := Lib.hid (fun W hd => CT.out o r hoi hri less h2 W hd)
            have c0 : (0 : Int) ≤ q := by omega
            have c1 : (q : Int) < Lo.length := by omega
            clear hr h1 h2
            obtain ⟨wq, rfl⟩ : ∃ W : World, W = wr := ⟨_, rfl⟩
            have hdr : Below wq.heap.size wq wq.drew := below_drewN (Below.refl _ _) 1
            have hS0 : wq.drew.cell? ⟨b, off + q, none⟩ = some (.int .i64 (r : Int)) ∧ wq.drew.cell? ⟨b, off + k, none⟩ = some (.int .i64 (o : Int)) ∧ Hid (OdN N wq.drew base O B g n C bs vn vb vs ∧ AskM base g n C w wq.drew) := ⟨hcell2, hcell3, Lib.hid ⟨hd.out.1.only (Only.of_below hdr), hd.out.2.below hdr⟩⟩
            go_upto_region 8 with fail
            go_cut [10, 11] (fun s10 s11 wx => s10 = .bool more ∧ s11 = .bool less ∧ Hid (OdN N wx base O B g n C bs vn vb vs ∧ AskM base g n C w wx) ∧ Only wq wx (fun b => b = g))
            case first =>
              go_region_held3 (fun W : World => W.cell? ⟨b, off + q, none⟩ = some (.int .i64 (r : Int)) ∧ W.cell? ⟨b, off + k, none⟩ = some (.int .i64 (o : Int)) ∧ Hid (OdN N W base O B g n C bs vn vb vs ∧ AskM base g n C w W)) (first | exact hS0 | exact hS1 | exact hS2 | (go_split_ands; exact ⟨‹_›, ‹_›, ‹_›⟩)) (first
                | (go_at_call 109; go_split_ands; (with_reducible refine (C1.out _ (by assumption)).mono ?_); rintro e wa ⟨rfl, hda, hoa⟩; have hS1 : wa.cell? ⟨b, off + q, none⟩ = some (.int .i64 (r : Int)) ∧ wa.cell? ⟨b, off + k, none⟩ = some (.int .i64 (o : Int)) ∧ Hid (OdN N wa base O B g n C bs vn vb vs ∧ AskM base g n C w wa) := ⟨(hoa.cell hbb2 hbg).trans hcell2, (hoa.cell hbb2 hbg).trans hcell3, hda⟩; have hbba : b < wa.heap.size := Nat.lt_of_lt_of_le hbb2 hoa.size)
                | (go_at_call 109; go_split_ands; (with_reducible refine (C2.out _ (by assumption)).mono ?_); rintro e wb ⟨rfl, hdb, hob⟩; have hS2 : wb.cell? ⟨b, off + q, none⟩ = some (.int .i64 (r : Int)) ∧ wb.cell? ⟨b, off + k, none⟩ = some (.int .i64 (o : Int)) ∧ Hid (OdN N wb base O B g n C bs vn vb vs ∧ AskM base g n C w wb) := ⟨(hob.cell hbba hbg).trans (by assumption), (hob.cell hbba hbg).trans (by assumption), hdb⟩))
              all_goals
                go_wp2_with fail
                go_meet
                exact ⟨rfl, rfl, hdb, ((Only.of_below hdr).trans hoa (fun _ _ h => h)).trans hob (fun _ _ h => h)⟩
            case rest =>
              obtain ⟨wx, rfl⟩ : ∃ W : World, W = wc := ⟨_, rfl⟩
              obtain ⟨rfl, rfl, hd, hox⟩ := hcut
              have hown := Lib.hid (hown.out.only hox (by omega))
              have hp := Lib.hid (hp.out.trans (hox.mono (fun _ _ e => Or.inl e)) (fun _ _ h => h))
              have hsz : w0.heap.size ≤ wx.heap.size := Nat.le_trans hsz hox.size
              have hbc : b < wx.heap.size := Nat.lt_of_lt_of_le hbb2 hox.size
              clear hcell2 hcell3 hbb2 hS0 hdr hox C1 C2
              by_cases hqk : q = k
              · obtain rfl : k = q := hqk.symm
                have HN := Lib.hid (domS_no (A := C) (Lo := Lo) (l := false) (k := k) (q := k) (by rw [HDC.out]; simp ))
                rw [← HN.out] at hown
                clear HN HDC
                go_wp2
                go_roundg n1
                case measure => omega
                case rel => exact ⟨k + 1, by omega, by go_num, hown, hd, hp, hsz⟩
              · have hne : ¬ ((q : Int) = (k : Int)) := by omega
                cases less with
                | false =>
                  have HN := Lib.hid (domS_no (A := C) (Lo := Lo) (l := false) (k := k) (q := q) (by rw [HDC.out]; simp ))
                  rw [← HN.out] at hown
                  clear HN HDC
                  go_wp2
                  go_roundg n1
                  case measure => omega
                  case rel => exact ⟨q + 1, by omega, by go_num, hown, hd, hp, hsz⟩
                | true =>
                  cases more with
                  | false =>
                    have HN := Lib.hid (domS_put (A := C) (Lo := Lo) (l := false) (k := k) (q := q) (by rw [HDC.out]; simp [hqk]))
                    obtain ⟨ob, oo, oc, rfl, hob1, hob2⟩ := hown.out.ex
                    have CP := Lib.hid (l1Put_calls ob oo oc (domS C Lo false k q) k wx w0.heap.size wx.heap.size (Nat.le_refl _) hown.out.ints hob1 hob2 (by have := domS_len C Lo false k q; omega) (by omega))
                    rw [HN.out] at CP
                    clear HN HDC
                    go_wp2_with fail
                    refine CP.out.mono ?_
                    rintro e w6 ⟨b6, off6, c6, rfl, hi6, hl6, hlt6, hb6⟩
                    have L6 : Hid (LstZ w6 w0.heap.size (.slice (some ⟨b6, off6, none⟩) (domS C Lo false k (q + 1)).length c6) (domS C Lo false k (q + 1))) := Lib.hid ⟨⟨_, _, _, rfl, hl6, hlt6⟩, hi6⟩
                    have D6 : Hid (OdN N w6 base O B g n C bs vn vb vs ∧ AskM base g n C w w6) := Lib.hid ⟨hd.out.1.only (Only.of_below hb6), hd.out.2.below hb6⟩
                    have P6 := Lib.hid (hp.out.trans (Only.of_below (F := fun b => b = g ∨ w0.heap.size ≤ b) hb6) (fun _ _ h => h))
                    have hs6 := hb6.size
                    clear hi6 hb6 hown hd hp CP
                    go_wp2_with fail
                    go_roundg n1
                    case measure => omega
                    case rel => exact ⟨q + 1, by omega, by go_num, L6, D6, P6, by omega⟩
                  | true =>
                    by_cases hqlt : q < k
                    · have hqi : (q : Int) < (k : Int) := by omega
                      have HN := Lib.hid (domS_put (A := C) (Lo := Lo) (l := false) (k := k) (q := q) (by rw [HDC.out]; simp [hqk, hqlt]))
                      obtain ⟨ob, oo, oc, rfl, hob1, hob2⟩ := hown.out.ex
                      have CP := Lib.hid (l1Put_calls ob oo oc (domS C Lo false k q) k wx w0.heap.size wx.heap.size (Nat.le_refl _) hown.out.ints hob1 hob2 (by have := domS_len C Lo false k q; omega) (by omega))
                      rw [HN.out] at CP
                      clear HN HDC
                      go_wp2_with fail
                      refine CP.out.mono ?_
                      rintro e w6 ⟨b6, off6, c6, rfl, hi6, hl6, hlt6, hb6⟩
                      have L6 : Hid (LstZ w6 w0.heap.size (.slice (some ⟨b6, off6, none⟩) (domS C Lo false k (q + 1)).length c6) (domS C Lo false k (q + 1))) := Lib.hid ⟨⟨_, _, _, rfl, hl6, hlt6⟩, hi6⟩
                      have D6 : Hid (OdN N w6 base O B g n C bs vn vb vs ∧ AskM base g n C w w6) := Lib.hid ⟨hd.out.1.only (Only.of_below hb6), hd.out.2.below hb6⟩
                      have P6 := Lib.hid (hp.out.trans (Only.of_below (F := fun b => b = g ∨ w0.heap.size ≤ b) hb6) (fun _ _ h => h))
                      have hs6 := hb6.size
                      clear hi6 hb6 hown hd hp CP
                      go_wp2_with fail
                      go_roundg n1
                      case measure => omega
                      case rel => exact ⟨q + 1, by omega, by go_num, L6, D6, P6, by omega⟩
                    · have hqi : ¬ ((q : Int) < (k : Int)) := by omega
                      have HN := Lib.hid (domS_no (A := C) (Lo := Lo) (l := false) (k := k) (q := q) (by rw [HDC.out]; simp ; omega))
                      rw [← HN.out] at hown
                      clear HN HDC
                      go_wp2
                      go_roundg n1
                      case measure => omega
                      case rel => exact ⟨q + 1, by omega, by go_num, hown, hd, hp, hsz⟩
          · have HS2 : Hid (domS C Lo false k q = domL C Lo false (k + 1)) := Lib.hid (by rw [← domS_end]; congr 1; omega)
            rw [HS2.out] at hown
            clear HS2
            go_wp2
            go_roundg n0
            case measure => omega
            case rel => exact ⟨k + 1, by omega, by go_num, hown, hd, hp, by omega⟩
      · have hke : k = Lo.length := by omega
        subst hke
        clear HL1 CT HIN
        go_wp2_with fail
        go_ret
        exact ⟨_, rfl, hown.out, hd.out.2, hp.out⟩
  | true =>
    go_enter Try.func78, Try.ntmps78
    go_wp2
    generalize w0.alloc (.cells #[] 3) = W0 at HO0 HD0 HA0 HP0 hs0 ⊢
    go_loopg [7, 8] Lo.length (fun nn v i wr => ∃ k : Nat, nn + k = Lo.length ∧ i = .int .i64 k ∧ Hid (LstZ wr w0.heap.size v (domL C Lo true k)) ∧ Hid (OdN N wr base O B g n C bs vn vb vs ∧ AskM base g n C w wr) ∧ Hid (Only w0 wr (fun b => b = g ∨ w0.heap.size ≤ b)) ∧ w0.heap.size ≤ wr.heap.size)
    case atStart => exact ⟨0, by omega, rfl, HO0, Lib.hid ⟨HD0.out, HA0.out⟩, HP0, hs0⟩
    case round =>
      obtain ⟨k, hgk, rfl, hown, hd, hp, hsz⟩ := hrel
      clear HO0 HA0 HD0 HP0 hs0
      by_cases hlt : k < Lo.length
      · obtain ⟨n0, rfl⟩ : ∃ n0, gk = n0 + 1 := ⟨gk - 1, by omega⟩
        obtain ⟨o, ho⟩ := lt_get hlt
        have hoi := HL1.out o (List.mem_of_getElem? ho)
        have HO := Lib.hid ho
        have b0 : (0 : Int) ≤ k := by omega
        have b1' : (k : Int) < Lo.length := by omega
        have hown2 := hown
        rw [← domS_zero C Lo true k] at hown2
        clear ho hown
        go_wp2
        go_loopg [7, 9] Lo.length (fun n2 v j wy => ∃ q : Nat, n2 + q = Lo.length ∧ j = .int .i64 q ∧ Hid (LstZ wy w0.heap.size v (domS C Lo true k q)) ∧ Hid (OdN N wy base O B g n C bs vn vb vs ∧ AskM base g n C w wy) ∧ Hid (Only w0 wy (fun b => b = g ∨ w0.heap.size ≤ b)) ∧ w0.heap.size ≤ wy.heap.size)
        case atStart => exact ⟨0, by omega, rfl, hown2, hd, hp, hsz⟩
        case round =>
          clear hown2 hd hp hsz
          obtain ⟨q, hgq, rfl, hown, hd, hp, hsz⟩ := hrel
          by_cases hql : q < Lo.length
          · obtain ⟨n1, rfl⟩ : ∃ n1, gk = n1 + 1 := ⟨gk - 1, by omega⟩
            obtain ⟨r, hr⟩ := lt_get hql
            have hri := HL1.out r (List.mem_of_getElem? hr)
            have hin := HIN.out _ hd.out.1
            obtain ⟨b2, off2, c2, e2, hbb2, hcell2⟩ := inner_cell hin hr
            obtain ⟨b3, off3, c3, e3, hbb3, hcell3⟩ := inner_cell hin HO.out
            have e9 : b = b2 ∧ off = off2 := by
              injection e2 with e2 _ _
              injection e2 with e2
              injection e2 with e2 e4 _
              exact ⟨e2, e4⟩
            have e8 : b = b3 ∧ off = off3 := by
              injection e3 with e3 _ _
              injection e3 with e3
              injection e3 with e3 e4 _
              exact ⟨e3, e4⟩
            obtain ⟨rfl, rfl⟩ := e9
            obtain ⟨rfl, rfl⟩ := e8
            clear e2 e3 hin hbb3
            obtain ⟨more, h1⟩ : ∃ more, geF C r o = more := ⟨_, rfl⟩
            obtain ⟨less, h2⟩ : ∃ less, geF C o r = less := ⟨_, rfl⟩
            have HDC := Lib.hid (domC_model HBK.out (l := true) HO.out hr hoi hri h1 h2)
            have C1 := Lib.hid (fun W hd => CT.out r o hri hoi more h1 W hd)
            have C2 := Lib.hid (fun W hd => CT.out o r hoi hri less h2 W hd)
            have c0 : (0 : Int) ≤ q := by omega
            have c1 : (q : Int) < Lo.length := by omega
            clear hr h1 h2
            obtain ⟨wq, rfl⟩ : ∃ W : World, W = wr := ⟨_, rfl⟩
            have hdr : Below wq.heap.size wq wq.drew := below_drewN (Below.refl _ _) 1
            have hS0 : wq.drew.cell? ⟨b, off + q, none⟩ = some (.int .i64 (r : Int)) ∧ wq.drew.cell? ⟨b, off + k, none⟩ = some (.int .i64 (o : Int)) ∧ Hid (OdN N wq.drew base O B g n C bs vn vb vs ∧ AskM base g n C w wq.drew) := ⟨hcell2, hcell3, Lib.hid ⟨hd.out.1.only (Only.of_below hdr), hd.out.2.below hdr⟩⟩
            go_upto_region 8 with fail
            go_cut [10, 11] (fun s10 s11 wx => s10 = .bool more ∧ s11 = .bool less ∧ Hid (OdN N wx base O B g n C bs vn vb vs ∧ AskM base g n C w wx) ∧ Only wq wx (fun b => b = g))
            case first =>
              go_region_held3 (fun W : World => W.cell? ⟨b, off + q, none⟩ = some (.int .i64 (r : Int)) ∧ W.cell? ⟨b, off + k, none⟩ = some (.int .i64 (o : Int)) ∧ Hid (OdN N W base O B g n C bs vn vb vs ∧ AskM base g n C w W)) (first | exact hS0 | exact hS1 | exact hS2 | (go_split_ands; exact ⟨‹_›, ‹_›, ‹_›⟩)) (first
                | (go_at_call 109; go_split_ands; (with_reducible refine (C1.out _ (by assumption)).mono ?_); rintro e wa ⟨rfl, hda, hoa⟩; have hS1 : wa.cell? ⟨b, off + q, none⟩ = some (.int .i64 (r : Int)) ∧ wa.cell? ⟨b, off + k, none⟩ = some (.int .i64 (o : Int)) ∧ Hid (OdN N wa base O B g n C bs vn vb vs ∧ AskM base g n C w wa) := ⟨(hoa.cell hbb2 hbg).trans hcell2, (hoa.cell hbb2 hbg).trans hcell3, hda⟩; have hbba : b < wa.heap.size := Nat.lt_of_lt_of_le hbb2 hoa.size)
                | (go_at_call 109; go_split_ands; (with_reducible refine (C2.out _ (by assumption)).mono ?_); rintro e wb ⟨rfl, hdb, hob⟩; have hS2 : wb.cell? ⟨b, off + q, none⟩ = some (.int .i64 (r : Int)) ∧ wb.cell? ⟨b, off + k, none⟩ = some (.int .i64 (o : Int)) ∧ Hid (OdN N wb base O B g n C bs vn vb vs ∧ AskM base g n C w wb) := ⟨(hob.cell hbba hbg).trans (by assumption), (hob.cell hbba hbg).trans (by assumption), hdb⟩))
              all_goals
                go_wp2_with fail
                go_meet
                exact ⟨rfl, rfl, hdb, ((Only.of_below hdr).trans hoa (fun _ _ h => h)).trans hob (fun _ _ h => h)⟩
            case rest =>
              obtain ⟨wx, rfl⟩ : ∃ W : World, W = wc := ⟨_, rfl⟩
              obtain ⟨rfl, rfl, hd, hox⟩ := hcut
              have hown := Lib.hid (hown.out.only hox (by omega))
              have hp := Lib.hid (hp.out.trans (hox.mono (fun _ _ e => Or.inl e)) (fun _ _ h => h))
              have hsz : w0.heap.size ≤ wx.heap.size := Nat.le_trans hsz hox.size
              have hbc : b < wx.heap.size := Nat.lt_of_lt_of_le hbb2 hox.size
              clear hcell2 hcell3 hbb2 hS0 hdr hox C1 C2
              by_cases hqk : q = k
              · obtain rfl : k = q := hqk.symm
                have HN := Lib.hid (domS_no (A := C) (Lo := Lo) (l := true) (k := k) (q := k) (by rw [HDC.out]; simp ))
                rw [← HN.out] at hown
                clear HN HDC
                go_wp2
                go_roundg n1
                case measure => omega
                case rel => exact ⟨k + 1, by omega, by go_num, hown, hd, hp, hsz⟩
              · have hne : ¬ ((q : Int) = (k : Int)) := by omega
                cases more with
                | false =>
                  have HN := Lib.hid (domS_no (A := C) (Lo := Lo) (l := true) (k := k) (q := q) (by rw [HDC.out]; simp ))
                  rw [← HN.out] at hown
                  clear HN HDC
                  go_wp2
                  go_roundg n1
                  case measure => omega
                  case rel => exact ⟨q + 1, by omega, by go_num, hown, hd, hp, hsz⟩
                | true =>
                  cases less with
                  | false =>
                    have HN := Lib.hid (domS_put (A := C) (Lo := Lo) (l := true) (k := k) (q := q) (by rw [HDC.out]; simp [hqk]))
                    obtain ⟨ob, oo, oc, rfl, hob1, hob2⟩ := hown.out.ex
                    have CP := Lib.hid (l1Put_calls ob oo oc (domS C Lo true k q) k wx w0.heap.size wx.heap.size (Nat.le_refl _) hown.out.ints hob1 hob2 (by have := domS_len C Lo true k q; omega) (by omega))
                    rw [HN.out] at CP
                    clear HN HDC
                    go_wp2_with fail
                    refine CP.out.mono ?_
                    rintro e w6 ⟨b6, off6, c6, rfl, hi6, hl6, hlt6, hb6⟩
                    have L6 : Hid (LstZ w6 w0.heap.size (.slice (some ⟨b6, off6, none⟩) (domS C Lo true k (q + 1)).length c6) (domS C Lo true k (q + 1))) := Lib.hid ⟨⟨_, _, _, rfl, hl6, hlt6⟩, hi6⟩
                    have D6 : Hid (OdN N w6 base O B g n C bs vn vb vs ∧ AskM base g n C w w6) := Lib.hid ⟨hd.out.1.only (Only.of_below hb6), hd.out.2.below hb6⟩
                    have P6 := Lib.hid (hp.out.trans (Only.of_below (F := fun b => b = g ∨ w0.heap.size ≤ b) hb6) (fun _ _ h => h))
                    have hs6 := hb6.size
                    clear hi6 hb6 hown hd hp CP
                    go_wp2_with fail
                    go_roundg n1
                    case measure => omega
                    case rel => exact ⟨q + 1, by omega, by go_num, L6, D6, P6, by omega⟩
                  | true =>
                    by_cases hqlt : q < k
                    · have hqi : (q : Int) < (k : Int) := by omega
                      have HN := Lib.hid (domS_put (A := C) (Lo := Lo) (l := true) (k := k) (q := q) (by rw [HDC.out]; simp [hqk, hqlt]))
                      obtain ⟨ob, oo, oc, rfl, hob1, hob2⟩ := hown.out.ex
                      have CP := Lib.hid (l1Put_calls ob oo oc (domS C Lo true k q) k wx w0.heap.size wx.heap.size (Nat.le_refl _) hown.out.ints hob1 hob2 (by have := domS_len C Lo true k q; omega) (by omega))
                      rw [HN.out] at CP
                      clear HN HDC
                      go_wp2_with fail
                      refine CP.out.mono ?_
                      rintro e w6 ⟨b6, off6, c6, rfl, hi6, hl6, hlt6, hb6⟩
                      have L6 : Hid (LstZ w6 w0.heap.size (.slice (some ⟨b6, off6, none⟩) (domS C Lo true k (q + 1)).length c6) (domS C Lo true k (q + 1))) := Lib.hid ⟨⟨_, _, _, rfl, hl6, hlt6⟩, hi6⟩
                      have D6 : Hid (OdN N w6 base O B g n C bs vn vb vs ∧ AskM base g n C w w6) := Lib.hid ⟨hd.out.1.only (Only.of_below hb6), hd.out.2.below hb6⟩
                      have P6 := Lib.hid (hp.out.trans (Only.of_below (F := fun b => b = g ∨ w0.heap.size ≤ b) hb6) (fun _ _ h => h))
                      have hs6 := hb6.size
                      clear hi6 hb6 hown hd hp CP
                      go_wp2_with fail
                      go_roundg n1
                      case measure => omega
                      case rel => exact ⟨q + 1, by omega, by go_num, L6, D6, P6, by omega⟩
                    · have hqi : ¬ ((q : Int) < (k : Int)) := by omega
                      have HN := Lib.hid (domS_no (A := C) (Lo := Lo) (l := true) (k := k) (q := q) (by rw [HDC.out]; simp ; omega))
                      rw [← HN.out] at hown
                      clear HN HDC
                      go_wp2
                      go_roundg n1
                      case measure => omega
                      case rel => exact ⟨q + 1, by omega, by go_num, hown, hd, hp, hsz⟩
          · have HS2 : Hid (domS C Lo true k q = domL C Lo true (k + 1)) := Lib.hid (by rw [← domS_end]; congr 1; omega)
            rw [HS2.out] at hown
            clear HS2
            go_wp2
            go_roundg n0
            case measure => omega
            case rel => exact ⟨k + 1, by omega, by go_num, hown, hd, hp, by omega⟩
      · have hke : k = Lo.length := by omega
        subst hke
        clear HL1 CT HIN
        go_wp2_with fail
        go_ret
        exact ⟨_, rfl, hown.out, hd.out.2, hp.out⟩
end

section
open Go.RowKit
set_option linter.unusedVariables false
set_option linter.unusedSimpArgs false

theorem hasN_succ (L : List Nat) (n k x : Nat) (h : L[k]? = some x) : decide (n ∈ L.take (k + 1)) = (decide (n ∈ L.take k) || decide (x = n)) := by
  rw [List.take_add_one, h]
  simp [eq_comm]

set_option maxRecDepth 100000 in
set_option maxHeartbeats 2000000 in
theorem l1Has_calls (v : Value) (L : List Nat) (n : Nat) (w : World) (lo hi : Nat) (h : IntsZ w lo hi v (upL L)) (r : Bool) (hr : Hid (decide (n ∈ L) = r)) :
    Calls Try.prog 139 #[v, .int .i64 n] w fun e w' => e = .returned (.bool r) ∧ w' = w := by
  obtain ⟨ao, c, rfl, hc⟩ := ints_len h
  have H := Lib.hid h
  clear h
  go_enter Try.func139, Try.ntmps139
  go_wp2
  go_loopg [5] L.length (fun nn q wr => ∃ k : Nat, nn + k = L.length ∧ q = .int .i64 k ∧ Hid (decide (n ∈ L.take k) = false) ∧ w = wr)
  case atStart => exact ⟨0, by omega, rfl, Lib.hid (by simp), rfl⟩
  case round =>
    obtain ⟨k, hgk, rfl, hno, rfl⟩ := hrel
    by_cases hlt : k < L.length
    · obtain ⟨n0, rfl⟩ : ∃ n0, gk = n0 + 1 := ⟨gk - 1, by omega⟩
      obtain ⟨x, hx⟩ := lt_get hlt
      obtain ⟨b, off, rfl, hbb, hcell⟩ := ints_at H.out hx
      have HX := Lib.hid hx
      have b0 : (0 : Int) ≤ k := by omega
      have b1 : (k : Int) < L.length := by omega
      clear hx
      by_cases hxn : x = n
      · have RR : Hid (r = true) := Lib.hid (by
          rw [← hr.out, decide_eq_true_iff, ← hxn]
          exact List.mem_of_getElem? HX.out)
        subst hxn
        clear hno
        go_wp2
        go_ret
        exact ⟨ret_bool RR.out.symm, rfl⟩
      · have HN : Hid (decide (n ∈ L.take (k + 1)) = false) := Lib.hid (by rw [hasN_succ L n k x HX.out, hno.out]; simp [hxn])
        have hne : ((x : Int) == (n : Int)) = false := by rw [beq_eq_false_iff_ne]; omega
        clear hno
        go_wp2
        go_roundg n0
        case measure => omega
        case rel => exact ⟨k + 1, by omega, by go_num, HN, rfl⟩
    · have RR : Hid (r = false) := Lib.hid (by
        rw [← hr.out, ← hno.out, List.take_of_length_le (by omega)])
      clear hno
      go_wp2
      go_ret
      exact ⟨ret_bool RR.out.symm, rfl⟩

/-- numbers without those at some places -/
def woL (L Ps : List Nat) (k : Nat) : List Nat := ((List.range k).filter (fun p => !decide (p ∈ Ps))).map (fun p => L.getD p 0)
theorem woL_succ {L Ps : List Nat} {k x : Nat} {r : Bool} (hx : L[k]? = some x) (hr : decide (k ∈ Ps) = r) : woL L Ps (k + 1) = woL L Ps k ++ if r then [] else [x] := by
  have e : L.getD k 0 = x := by rw [List.getD_eq_getElem?_getD, hx]; rfl
  unfold woL
  rw [List.range_succ, List.filter_append, List.map_append]
  congr 1
  rw [List.filter_cons, List.filter_nil, hr]
  cases r <;> simp
  rw [hx]; rfl
theorem woL_len (L Ps : List Nat) (k : Nat) : (woL L Ps k).length ≤ k := by
  unfold woL
  rw [List.length_map]
  exact Nat.le_trans (List.length_filter_le _ _) (by simp)

set_option maxRecDepth 100000 in
set_option maxHeartbeats 2000000 in
theorem without_calls (vl vp : Value) (L Ps : List Nat) (w : World) (lo hi lo' hi' : Nat) (hh : hi ≤ w.heap.size) (hh' : hi' ≤ w.heap.size) (h : IntsZ w lo hi vl (upL L)) (h' : IntsZ w lo' hi' vp (upL Ps)) (hL : L.length ≤ 100000) (res : List Nat) (hres : Hid (woL L Ps L.length = res)) :
    Calls Try.prog 118 #[vl, vp] w fun e w' => ∃ v, e = .returned v ∧ OwnI w' w.heap.size v (upL res) ∧ Below w.heap.size w w' := by
  obtain ⟨i0, hi0, hz0, hz1, hz2⟩ := info_parts infoIntA
  obtain ⟨ao, c, rfl, hc⟩ := ints_len h
  have hal : Below w.heap.size w (w.alloc (.cells #[] 3)) := (Below.refl _ _).alloc (Nat.le_refl _) _
  have HI0 := Lib.hid (h.below hal hh)
  have HP := Lib.hid (fun W (hW : Below w.heap.size w W) => h'.below hW hh')
  have HO0 : Hid (OwnI (w.alloc (.cells #[] 3)) w.heap.size (.slice (some ⟨w.heap.size, 0, none⟩) 0 0) (upL (woL L Ps 0))) := Lib.hid (World.ownsRow_lit (base := w.heap.size) (e := 3) (size := 1) w #[] 0 (Nat.le_refl _) (by unfold maxLen; omega) rfl)
  have HB0 := Lib.hid hal
  clear h h' hal
  go_enter Try.func118, Try.ntmps118
  go_wp2
  generalize w.alloc (.cells #[] 3) = W0 at HI0 HO0 HB0 ⊢
  go_loopg [5, 6] L.length (fun nn v q wr => ∃ k : Nat, nn + k = L.length ∧ q = .int .i64 k ∧ Hid (OwnI wr w.heap.size v (upL (woL L Ps k))) ∧ Hid (IntsZ wr lo hi (.slice ao L.length c) (upL L)) ∧ Hid (Below w.heap.size w wr))
  case atStart => exact ⟨0, by omega, rfl, HO0, HI0, HB0⟩
  case round =>
    obtain ⟨k, hgk, rfl, hown, hio, hb⟩ := hrel
    clear HO0 HI0 HB0
    by_cases hlt : k < L.length
    · obtain ⟨n0, rfl⟩ : ∃ n0, gk = n0 + 1 := ⟨gk - 1, by omega⟩
      obtain ⟨x, hx⟩ := lt_get hlt
      obtain ⟨b, off, rfl, hbb, hcell⟩ := ints_at hio.out hx
      obtain ⟨r, hr⟩ : ∃ r, decide (k ∈ Ps) = r := ⟨_, rfl⟩
      have HS := Lib.hid (woL_succ (Ps := Ps) hx hr)
      have CC := Lib.hid (l1Has_calls vp Ps k wr lo' hi' (HP.out _ hb.out) r (Lib.hid hr))
      have b0 : (0 : Int) ≤ k := by omega
      have b1 : (k : Int) < L.length := by omega
      clear hx hr
      cases r with
      | true =>
        have HS2 : Hid (woL L Ps (k + 1) = woL L Ps k) := Lib.hid (by rw [HS.out]; simp)
        rw [← HS2.out] at hown
        clear HS
        go_wp2_with fail
        refine CC.out.mono ?_
        rintro e w2 ⟨rfl, rfl⟩
        clear CC
        go_wp2
        go_roundg n0
        case measure => omega
        case rel => exact ⟨k + 1, by omega, by go_num, hown, hio, hb⟩
      | false =>
        have HS2 : Hid (upL (woL L Ps (k + 1)) = upL (woL L Ps k) ++ [(x : Int)]) := Lib.hid (by rw [HS.out]; simp [upL])
        have hml := woL_len L Ps k
        have hwz := hb.out.size
        have hul : (upL (woL L Ps k)).length = (woL L Ps k).length := by simp [upL]
        clear HS
        go_wp2_with fail
        refine CC.out.mono ?_
        rintro e w2 ⟨rfl, rfl⟩
        clear CC
        go_wp2_with (at_builtin; refine wpList_append_own_at _ rfl _ _ 35 rfl w.heap.size 3 i0 (.int .i64 0) 1 8 Try.underlying35 hi0 hz0 hz1 hz2 rfl (by decide) _ _ _ rfl (World.ownsRow.alloc hown.out _) ⟨w2.heap.size, 0, none⟩ 1 1 [.int .i64 (x : Int)] rfl rfl ?e1 ?e2 ?e3 ?e4 ?e5 ?_)
        case e1 => exact World.news_of_block (heap_alloc_new _ _)
        case e2 => first | rfl | (intro u hu; simp at hu; subst hu; rfl)
        case e3 => unfold maxLen; omega
        case e4 => omega
        case e5 => simp; omega
        intro v6 w6 hown6 hgrow6 hnil6 hat6
        have O6 : Hid (OwnI w6 w.heap.size v6 (upL (woL L Ps (k + 1)))) := Lib.hid (by rw [HS2.out]; unfold OwnI; rw [List.map_append, List.length_append, hul]; exact hown6)
        have hfar : Only w2 w6 (fun b => w.heap.size ≤ b) := (Only.of_below (F := fun b => w.heap.size ≤ b) ((Below.refl _ _).alloc (Nat.le_refl _) _)).trans (Only.of_grown (F := fun b => w.heap.size ≤ b) hgrow6 (fun g e => (hown.out.lt g e).1)) (fun _ _ h => h)
        have hb6 : Below w.heap.size w2 w6 := hfar.below hwz (fun g h => h)
        have I6 := Lib.hid (hio.out.below hb6 hh)
        have B6 := Lib.hid (hb.out.trans hb6)
        clear hown6 hgrow6 hnil6 hat6 hfar hb6 hown hio hb HS2 hul
        go_wp2_with fail
        go_roundg n0
        case measure => omega
        case rel => exact ⟨k + 1, by omega, by go_num, O6, I6, B6⟩
    · have hke : k = L.length := by omega
      subst hke
      rw [hres.out] at hown
      clear hio HP
      go_wp2
      go_ret
      exact ⟨_, rfl, hown.out, hb.out⟩
end

section
open Go.RowKit
set_option linter.unusedVariables false
set_option linter.unusedSimpArgs false

theorem rev_pos {A : List Nd} {Lo : List Nat} {i p o y : Nat} {l : Bool} (ho : Lo[p]? = some o) (h : ansK A i o l = some y) : (revG A Lo i l Lo.length).length ≠ 0 := by
  have hp := get_lt ho
  have e : Lo.getD p 0 = o := by rw [List.getD_eq_getElem?_getD, ho]; rfl
  have hm : (p : Int) ∈ revG A Lo i l Lo.length := by
    unfold revG
    refine List.mem_map.2 ⟨p, List.mem_filter.2 ⟨by simpa using hp, ?_⟩, rfl⟩
    rw [e, h]; rfl
  intro h0
  rw [List.length_eq_zero_iff.1 h0] at hm
  cases hm
theorem rev_none {A : List Nd} {Lo : List Nat} {i k o : Nat} {l : Bool} (ho : Lo[k]? = some o) (h : ansK A i o l = none) (h0 : (revG A Lo i l k).length = 0) : (revG A Lo i l (k + 1)).length = 0 := by
  rw [revG_succ A Lo i l k o none ho h]
  simpa using h0

theorem inner_src {w : World} {F : Nat → Prop} {v : Value} {l : List Nat} (h : InnerZ w F v l) : SrcI w v l.length (l.map iv) := by
  obtain ⟨b, o, c, rfl, hb, _, ao, c', e, _, hc⟩ := h
  refine ⟨by simp, iv_one l, Or.inr ⟨⟨b, o, none⟩, c, rfl, fun j u hu => ?_⟩⟩
  rw [List.getElem?_map] at hu
  cases hx : l[j]? with
  | none => rw [hx] at hu; cases hu
  | some x =>
    rw [hx] at hu
    simp only [Option.map_some, Option.some.injEq] at hu
    subst hu
    obtain ⟨b', o', e2, _, _, h3⟩ := hc j (x : Int) (by unfold upL; rw [List.getElem?_map, hx]; rfl)
    injection e with e1 _ _
    rw [← e1] at e2
    injection e2 with e2
    injection e2 with e3 e4
    subst e3 e4
    rw [add_addr]
    exact h3
theorem inner_ints {w : World} {F : Nat → Prop} {v : Value} {l : List Nat} (h : InnerZ w F v l) : IntsZ w 0 w.heap.size v (upL l) := by
  obtain ⟨b, o, c, _, _, _, hi⟩ := h
  exact hi
theorem lit_ints (w : World) (k : Nat) : IntsZ (w.alloc (.cells #[.int .i64 (k : Int)] 3)).drew 0 (w.alloc (.cells #[.int .i64 (k : Int)] 3)).drew.heap.size (.slice (some ⟨w.heap.size, 0, none⟩) 1 1) (upL [k]) := by
  have h := (show OwnI (w.alloc (.cells #[.int .i64 (k : Int)] 3)) w.heap.size (.slice (some ⟨w.heap.size, 0, none⟩) 1 1) [(k : Int)] from World.ownsRow_lit (base := w.heap.size) (e := 3) (size := 1) w #[.int .i64 (k : Int)] 1 (Nat.le_refl _) (by unfold maxLen; omega) rfl)
  exact (h.ints.wide (Nat.zero_le _) (Nat.le_refl _))
theorem sby_at {W W' : World} {M x O B gy d : Nat} {v1 v2 v3 v4 v5 : Value} (hb : Below M W W') (lx : x < M) (lO : O < M) (lB : B < M) (lG : gy < M) (h : W.cell? ⟨x, 0, none⟩ = some v1 ∧ W.cell? ⟨x, 1, none⟩ = some v2 ∧ W.cell? ⟨O, 0, none⟩ = some v3 ∧ W.cell? ⟨B, 0, none⟩ = some v4 ∧ W.cell? ⟨gy, d, none⟩ = some v5) :
    W'.cell? ⟨x, 0, none⟩ = some v1 ∧ W'.cell? ⟨x, 1, none⟩ = some v2 ∧ W'.cell? ⟨O, 0, none⟩ = some v3 ∧ W'.cell? ⟨B, 0, none⟩ = some v4 ∧ W'.cell? ⟨gy, d, none⟩ = some v5 := ⟨(bcell hb _ _ lx).trans h.1, (bcell hb _ _ lx).trans h.2.1, (bcell hb _ _ lO).trans h.2.2.1, (bcell hb _ _ lB).trans h.2.2.2.1, (bcell hb _ _ lG).trans h.2.2.2.2⟩
theorem ask_only {base g n m : Nat} {C : List Nd} {w W wa w6 : World} {va : Value} {L : List Value} (h : AskM base g n C w W) (ho : Only W w6 (fun b => b = g)) (hg6 : wa.grownBy w6 va.ownBlock) (hown : wa.ownsRow W.heap.size 3 1 va m L) (hba : Below W.heap.size W wa) (hgl : g < W.heap.size) : AskM base g n C w w6 := by
  obtain ⟨cs, k1, k2, k3⟩ := h
  exact ⟨cs, k1, own_only (k2.below hba) (Only.of_grown (F := fun b => W.heap.size ≤ b) hg6 (fun q e => (World.ownsRow.lt hown q e).1)) (fun b e h2 => by have e2 := own_eqv e; omega), k3.trans ho (fun _ _ h => h)⟩

set_option maxRecDepth 100000 in
set_option maxHeartbeats 8000000 in
theorem bypassS_calls (base O B g n : Nat) (C : List Nd) (bs : List Nat) (vn vb : Value) (vs : List (Value × Value)) (hB : Book C) (hCl : C.length ≤ 1000) (root : Nat) (hroot : root < C.length) (hL : ∀ nd, C[root]? = some nd → nd.1.length ≤ 1000 ∧ nd.2.length ≤ 1000) (hLy : ∀ nd ∈ C, nd.1.length ≤ 1000 ∧ nd.2.length ≤ 1000) (ok : Bool)
    (hok : Hid ((decide ((revX C root true).length = 0) && decide ((revX C root false).length = 0)) = !ok)) (w w0 : World) (hw : w.heap.size ≤ w0.heap.size) (hgN : g < w0.heap.size)
    (h : Od w0 base O B g n C bs vn vb vs) (ha : AskM base g n C w w0) :
    Calls Try.prog 86 #[.pointer (some ⟨O, 0, none⟩), .int .i64 root] w0 fun e w' => ∃ v1 v2, e = .returned (.tuple #[v1, v2, .bool ok]) ∧ AskM base g n C w w' ∧ Only w0 w' (fun b => b = g) := by
  obtain ⟨i0, hi0, hz0, hz1, hz2⟩ := info_parts infoIntA
  obtain ⟨nd, hnd⟩ := lt_get hroot
  obtain ⟨gn, cn, ⟨a1, a2⟩, hvn, hvs, q1, q2, in1, in2⟩ := h.bk.node hnd
  simp only at q1 q2 in1 in2
  have k0 := h.c0
  have kb := h.bk.c0
  rw [hvn] at kb
  obtain ⟨l1, l2⟩ := hL nd hnd
  have hu := hB.struct.under
  have HL1 : Hid (∀ r, r ∈ nd.1 ∨ r ∈ nd.2 → r < C.length) := Lib.hid (fun r hr => by have := hu root nd hnd r hr; omega)
  have e1 : optsD C root true = nd.1 := by unfold optsD; rw [nodeD_at hnd]; rfl
  have e2 : optsD C root false = nd.2 := by unfold optsD; rw [nodeD_at hnd]; rfl
  have X1 : Hid ((revX C root true).length = (revG C nd.1 root true nd.1.length).length) := Lib.hid (by unfold revX; rw [e1])
  have X2 : Hid ((revX C root false).length = (revG C nd.2 root false nd.2.length).length) := Lib.hid (by unfold revX; rw [e2])
  have nl1 := inner_len in1
  have nl2 := inner_len in2
  obtain ⟨b1, o1, c1, hv1, hb1, hnF1, _⟩ := in1
  obtain ⟨b2, o2, c2, hv2, hb2, hnF2, _⟩ := in2
  subst hv1 hv2
  have HN := Lib.hid h.toN
  have HBK := Lib.hid hB
  have HLY := Lib.hid hLy
  have HA := Lib.hid ha
  have HND := Lib.hid hnd
  have HVS := Lib.hid hvs
  have rI : (root : Int) < C.length := by omega
  have r0 : (0 : Int) ≤ root := by omega
  have CT := Lib.hid fun (o : Nat) (ho : o < C.length) (l : Bool) (r : Option Nat) (hr : ansK C root o l = r) (W : World) (hd : Hid (OdN w0.heap.size W base O B g n C bs vn vb vs ∧ AskM base g n C w W)) =>
    (through_calls base O B g n C bs vn vb vs hB hCl root o hroot ho l r (Lib.hid hr) W W hd.out.1.od hd.out.2.self).mono fun e w' hp => (⟨hp.1, Lib.hid ⟨hd.out.1.only (hp.2.only.mono (fun _ _ e => Or.inl e)), hd.out.2.trans hp.2⟩, hp.2.only⟩ : e = .returned (.int .i64 (thrV r)) ∧ Hid (OdN w0.heap.size w' base O B g n C bs vn vb vs ∧ AskM base g n C w w') ∧ Only W w' (fun b => b = g))
  have hal : Below w0.heap.size w0 (w0.alloc (.cells #[.slice (some ⟨b1, o1, none⟩) nd.1.length c1, .slice (some ⟨b2, o2, none⟩) nd.2.length c2] 67)) := (Below.refl _ _).alloc (Nat.le_refl _) _
  have HD0 : Hid (OdN w0.heap.size (w0.alloc (.cells #[.slice (some ⟨b1, o1, none⟩) nd.1.length c1, .slice (some ⟨b2, o2, none⟩) nd.2.length c2] 67)) base O B g n C bs vn vb vs ∧ AskM base g n C w (w0.alloc (.cells #[.slice (some ⟨b1, o1, none⟩) nd.1.length c1, .slice (some ⟨b2, o2, none⟩) nd.2.length c2] 67))) := Lib.hid ⟨HN.out.only (Only.of_below hal), ha.below hal⟩
  have HP0 : Hid (Only w0 (w0.alloc (.cells #[.slice (some ⟨b1, o1, none⟩) nd.1.length c1, .slice (some ⟨b2, o2, none⟩) nd.2.length c2] 67)) (fun b => b = g)) := Lib.hid (Only.of_below hal)
  have t0 : (w0.alloc (.cells #[.slice (some ⟨b1, o1, none⟩) nd.1.length c1, .slice (some ⟨b2, o2, none⟩) nd.2.length c2] 67)).cell? ⟨w0.heap.size, 0, none⟩ = some (.slice (some ⟨b1, o1, none⟩) nd.1.length c1) := by go_simp
  have t1 : (w0.alloc (.cells #[.slice (some ⟨b1, o1, none⟩) nd.1.length c1, .slice (some ⟨b2, o2, none⟩) nd.2.length c2] 67)).cell? ⟨w0.heap.size, 1, none⟩ = some (.slice (some ⟨b2, o2, none⟩) nd.2.length c2) := by go_simp
  clear h ha hnd hvs hu hvn hal e1 e2
  go_enter Try.func86, Try.ntmps86
  go_wp2
  clear q1 q2 k0 kb
  generalize w0.alloc (.cells #[.slice (some ⟨b1, o1, none⟩) nd.1.length c1, .slice (some ⟨b2, o2, none⟩) nd.2.length c2] 67) = W1 at HD0 HP0 t0 t1 ⊢
  go_loopg [8] nd.1.length (fun nn q wr => ∃ k : Nat, nn + k = nd.1.length ∧ q = .int .i64 k ∧ Hid ((revG C nd.1 root true k).length = 0) ∧ Hid (OdN w0.heap.size wr base O B g n C bs vn vb vs ∧ AskM base g n C w wr) ∧ Hid (Only w0 wr (fun b => b = g)) ∧ wr.cell? ⟨w0.heap.size, 0, none⟩ = some (.slice (some ⟨b1, o1, none⟩) nd.1.length c1) ∧ wr.cell? ⟨w0.heap.size, 1, none⟩ = some (.slice (some ⟨b2, o2, none⟩) nd.2.length c2))
  case atStart => exact ⟨0, by omega, rfl, Lib.hid rfl, HD0, HP0, t0, t1⟩
  case round =>
    clear HD0 HP0 t0 t1
    obtain ⟨k, hgk, rfl, hrv, hd, hp, t0, t1⟩ := hrel
    by_cases hlt : k < nd.1.length
    · obtain ⟨n0, rfl⟩ : ∃ n0, gk = n0 + 1 := ⟨gk - 1, by omega⟩
      obtain ⟨o, ho⟩ := lt_get hlt
      have hoi := HL1.out o (Or.inl (List.mem_of_getElem? ho))
      obtain ⟨wq, rfl⟩ : ∃ W : World, W = wr := ⟨_, rfl⟩
      obtain ⟨b', off', c', e1, hbb, hcell⟩ := inner_cell ((hd.out.1.bk.inner root nd _ HND.out HVS.out).1) ho
      have e9 : b1 = b' ∧ o1 = off' := by
        injection e1 with e1 _ _
        injection e1 with e1
        injection e1 with e1 e2 _
        exact ⟨e1, e2⟩
      obtain ⟨rfl, rfl⟩ := e9
      clear e1
      obtain ⟨r, hr⟩ : ∃ r, ansK C root o true = r := ⟨_, rfl⟩
      have CC := Lib.hid (CT.out o hoi true r hr wq hd)
      have c0 : (0 : Int) ≤ k := by omega
      have c1' : (k : Int) < nd.1.length := by omega
      have lx := block_of_cell t0
      cases r with
      | none =>
        have HN' := Lib.hid (rev_none (l := true) ho hr hrv.out)
        clear ho hr hrv
        go_wp2_with fail
        refine CC.out.mono ?_
        rintro e w2 ⟨rfl, hd2, ho2⟩
        have t0 := (ho2.cell lx (by omega)).trans t0
        have t1 := (ho2.cell lx (by omega)).trans t1
        have P2 := Lib.hid (hp.out.trans ho2 (fun _ _ h => h))
        clear ho2 hd hp CC hcell
        unfold thrV
        go_wp2_with fail
        go_roundg n0
        case measure => omega
        case rel => exact ⟨k + 1, by omega, by go_num, HN', hd2, P2, t0, t1⟩
      | some y =>
        have OK : Hid (ok = true) := Lib.hid (by
          have h1 := rev_pos ho hr
          have h2 := hok.out
          rw [X1.out, X2.out] at h2
          simp [h1] at h2
          simpa using h2)
        have hy : y < C.length := by
          unfold ansK at hr
          have := List.mem_of_find?_eq_some hr
          have := optsD_lt HBK.out.struct.under this
          omega
        have y0 : (0 : Int) ≤ y := by omega
        have yI : (y : Int) < C.length := by omega
        clear ho hr hrv
        go_wp2_with fail
        refine CC.out.mono ?_
        rintro e w2 ⟨rfl, hd2, ho2⟩
        have t0 := (ho2.cell lx (by omega)).trans t0
        have t1 := (ho2.cell lx (by omega)).trans t1
        have P2 := Lib.hid (hp.out.trans ho2 (fun _ _ h => h))
        have lx := block_of_cell t0
        clear ho2 hd hp CC hcell hbb
        unfold thrV
        obtain ⟨ny, hny⟩ := lt_get hy
        have hly := HLY.out ny (List.mem_of_getElem? hny)
        obtain ⟨gy, cy, ⟨p1, p2⟩, hvy, hvsy, qy1, qy2, _, _⟩ := hd2.out.1.bk.node hny
        have ky := hd2.out.1.c0
        have kby := hd2.out.1.bk.c0
        rw [hvy] at kby
        simp only at qy1 qy2
        have lO := block_of_cell ky
        have lB := block_of_cell kby
        have lG := block_of_cell qy1
        have hlit : Below w2.heap.size w2 (w2.alloc (.cells #[.int .i64 (k : Int)] 3)).drew := below_drewN ((Below.refl _ _).alloc (Nat.le_refl _) _) 1
        have HLI : Hid (IntsZ (w2.alloc (.cells #[.int .i64 (k : Int)] 3)).drew 0 (w2.alloc (.cells #[.int .i64 (k : Int)] 3)).drew.heap.size (.slice (some ⟨w2.heap.size, 0, none⟩) 1 1) (upL [k])) := Lib.hid (lit_ints w2 k)
        have hlz : w2.heap.size ≤ (w2.alloc (.cells #[.int .i64 (k : Int)] 3)).drew.heap.size := hlit.size
        obtain ⟨res, hres⟩ : ∃ res, woL nd.1 [k] nd.1.length = res := ⟨_, rfl⟩
        have hrl : res.length ≤ 1000 := by rw [← hres]; have := woL_len nd.1 [k] nd.1.length; omega
        have CWO := Lib.hid (without_calls (.slice (some ⟨b1, o1, none⟩) nd.1.length c1) (.slice (some ⟨w2.heap.size, 0, none⟩) 1 1) nd.1 [k] (w2.alloc (.cells #[.int .i64 (k : Int)] 3)).drew 0 w2.heap.size 0 _ hlz (Nat.le_refl _) ((inner_ints (hd2.out.1.bk.inner root nd _ HND.out HVS.out).1).below hlit (Nat.le_refl _)) HLI.out (by omega) res (Lib.hid hres))
        have HDL : Hid (OdN w0.heap.size (w2.alloc (.cells #[.int .i64 (k : Int)] 3)).drew base O B g n C bs vn vb vs ∧ AskM base g n C w (w2.alloc (.cells #[.int .i64 (k : Int)] 3)).drew) := Lib.hid ⟨hd2.out.1.only (Only.of_below hlit), hd2.out.2.below hlit⟩
        have HNY := Lib.hid hny
        have HVY := Lib.hid hvsy
        have P3 := Lib.hid (P2.out.trans (Only.of_below hlit) (fun _ _ h => h))
        have hS0 : w2.drew.cell? ⟨w0.heap.size, 0, none⟩ = some (.slice (some ⟨b1, o1, none⟩) nd.1.length c1) ∧ w2.drew.cell? ⟨w0.heap.size, 1, none⟩ = some (.slice (some ⟨b2, o2, none⟩) nd.2.length c2) ∧ w2.drew.cell? ⟨O, 0, none⟩ = some (.pointer (some ⟨B, 0, none⟩)) ∧ w2.drew.cell? ⟨B, 0, none⟩ = some (.slice (some ⟨gy, 0, none⟩) C.length cy) ∧ w2.drew.cell? ⟨gy, y * 2, none⟩ = some p1 := ⟨t0, t1, ky, kby, qy1⟩
        have hSL := sby_at hlit lx lO lB lG ⟨t0, t1, ky, kby, qy1⟩
        clear hny hvsy hres hvy
        go_upto_region 7 with fail
        go_cut [4, 5, 6] (fun s4 s5 s6 wx => s6 = .bool true ∧ Hid (AskM base g n C w wx ∧ Only w0 wx (fun b => b = g)))
        case first =>
          go_region_held3 (fun W : World => W.cell? ⟨w0.heap.size, 0, none⟩ = some (.slice (some ⟨b1, o1, none⟩) nd.1.length c1) ∧ W.cell? ⟨w0.heap.size, 1, none⟩ = some (.slice (some ⟨b2, o2, none⟩) nd.2.length c2) ∧ W.cell? ⟨O, 0, none⟩ = some (.pointer (some ⟨B, 0, none⟩)) ∧ W.cell? ⟨B, 0, none⟩ = some (.slice (some ⟨gy, 0, none⟩) C.length cy) ∧ W.cell? ⟨gy, y * 2, none⟩ = some p1) (first | exact hS0 | exact hSL | (go_split_ands; exact ⟨‹_›, ‹_›, ‹_›, ‹_›, ‹_›⟩) | (go_split_ands; exact sby_at hba2 lx lO lB lG ⟨‹_›, ‹_›, ‹_›, ‹_›, ‹_›⟩) | (go_split_ands; exact sby_at hb62 lx lO lB lG ⟨‹_›, ‹_›, ‹_›, ‹_›, ‹_›⟩) | (go_split_ands; exact sby_at ((Below.refl _ _).alloc (Nat.le_refl _) _) lx lO lB lG ⟨‹_›, ‹_›, ‹_›, ‹_›, ‹_›⟩)) (first
            | (refine step_app rfl _ _ rfl hown rfl HSRC.out rfl (by simp [upL]; omega) HBS ?_; intro v6 w6 hown6 hgrow6; have hb6 : Below (w2.alloc (.cells #[.int .i64 (k : Int)] 3)).drew.heap.size wa w6 := Below.grown (Below.refl _ _) hgrow6 HBS (fun q hq => (World.ownsRow.lt hown q hq).1); have hb62 : Below w2.heap.size wa w6 := hb6.mono hlz)
            | (go_at_call 118; (with_reducible refine CWO.out.mono ?_); rintro e wa ⟨va, rfl, hown, hba⟩; have HBS := hba.size; have hba2 : Below w2.heap.size (w2.alloc (.cells #[.int .i64 (k : Int)] 3)).drew wa := hba.mono hlz; have HDA : Hid (OdN w0.heap.size wa base O B g n C bs vn vb vs ∧ AskM base g n C w wa) := Lib.hid ⟨HDL.out.1.only (Only.of_below hba), HDL.out.2.below hba⟩; have HSRC := Lib.hid (inner_src ((HDA.out.1.bk.inner y ny _ HNY.out HVY.out).1))))
          all_goals
            have P6 : Only (w2.alloc (.cells #[.int .i64 (k : Int)] 3)).drew w6 (fun b => b = g) := (Only.of_below hba).trans (Only.of_grown (F := fun b => (w2.alloc (.cells #[.int .i64 (k : Int)] 3)).drew.heap.size ≤ b) hgrow6 (fun q e => (World.ownsRow.lt hown q e).1)) (fun i h1 h2 => by omega)
            have HF : Hid (AskM base g n C w w6 ∧ Only w0 w6 (fun b => b = g)) := Lib.hid ⟨ask_only HDL.out.2 P6 hgrow6 hown hba (by omega), P3.out.trans P6 (fun _ _ h => h)⟩
            clear hown hgrow6 hb6 hb62 hba hba2 P6
            go_wp2_with fail
            go_meet
            exact ⟨rfl, HF.out⟩
        case rest =>
          obtain ⟨rfl, hfin⟩ := hcut
          go_wp2_with fail
          exact bodyPost_ret (v := .tuple #[u4, u5, .bool true]) (by simp [results, Try.results86, go_sem]) rfl ⟨_, _, by rw [OK.out], hfin.out.1, hfin.out.2⟩
    · have hke : k = nd.1.length := by omega
      subst hke
      have HL0 := Lib.hid hrv.out
      have HD0 := hd
      have HP0 := hp
      clear hrv hd hp
      go_wp2
      go_loopg [10] nd.2.length (fun nn q wr => ∃ k : Nat, nn + k = nd.2.length ∧ q = .int .i64 k ∧ Hid ((revG C nd.2 root false k).length = 0) ∧ Hid (OdN w0.heap.size wr base O B g n C bs vn vb vs ∧ AskM base g n C w wr) ∧ Hid (Only w0 wr (fun b => b = g)) ∧ wr.cell? ⟨w0.heap.size, 0, none⟩ = some (.slice (some ⟨b1, o1, none⟩) nd.1.length c1) ∧ wr.cell? ⟨w0.heap.size, 1, none⟩ = some (.slice (some ⟨b2, o2, none⟩) nd.2.length c2))
      case atStart => exact ⟨0, by omega, rfl, Lib.hid rfl, HD0, HP0, t0, t1⟩
      case round =>
        clear HD0 HP0 t0 t1
        obtain ⟨k, hgk, rfl, hrv, hd, hp, t0, t1⟩ := hrel
        by_cases hlt : k < nd.2.length
        · obtain ⟨n0, rfl⟩ : ∃ n0, gk = n0 + 1 := ⟨gk - 1, by omega⟩
          obtain ⟨o, ho⟩ := lt_get hlt
          have hoi := HL1.out o (Or.inr (List.mem_of_getElem? ho))
          obtain ⟨wq, rfl⟩ : ∃ W : World, W = wr := ⟨_, rfl⟩
          obtain ⟨b', off', c', e1, hbb, hcell⟩ := inner_cell ((hd.out.1.bk.inner root nd _ HND.out HVS.out).2) ho
          have e9 : b2 = b' ∧ o2 = off' := by
            injection e1 with e1 _ _
            injection e1 with e1
            injection e1 with e1 e2 _
            exact ⟨e1, e2⟩
          obtain ⟨rfl, rfl⟩ := e9
          clear e1
          obtain ⟨r, hr⟩ : ∃ r, ansK C root o false = r := ⟨_, rfl⟩
          have CC := Lib.hid (CT.out o hoi false r hr wq hd)
          have c0 : (0 : Int) ≤ k := by omega
          have c1' : (k : Int) < nd.2.length := by omega
          have lx := block_of_cell t0
          cases r with
          | none =>
            have HN' := Lib.hid (rev_none (l := false) ho hr hrv.out)
            clear ho hr hrv
            go_wp2_with fail
            refine CC.out.mono ?_
            rintro e w2 ⟨rfl, hd2, ho2⟩
            have t0 := (ho2.cell lx (by omega)).trans t0
            have t1 := (ho2.cell lx (by omega)).trans t1
            have P2 := Lib.hid (hp.out.trans ho2 (fun _ _ h => h))
            clear ho2 hd hp CC hcell
            unfold thrV
            go_wp2_with fail
            go_roundg n0
            case measure => omega
            case rel => exact ⟨k + 1, by omega, by go_num, HN', hd2, P2, t0, t1⟩
          | some y =>
            have OK : Hid (ok = true) := Lib.hid (by
              have h1 := rev_pos ho hr
              have h2 := hok.out
              rw [X1.out, X2.out] at h2
              simp [h1] at h2
              simpa using h2)
            have hy : y < C.length := by
              unfold ansK at hr
              have := List.mem_of_find?_eq_some hr
              have := optsD_lt HBK.out.struct.under this
              omega
            have y0 : (0 : Int) ≤ y := by omega
            have yI : (y : Int) < C.length := by omega
            clear ho hr hrv
            go_wp2_with fail
            refine CC.out.mono ?_
            rintro e w2 ⟨rfl, hd2, ho2⟩
            have t0 := (ho2.cell lx (by omega)).trans t0
            have t1 := (ho2.cell lx (by omega)).trans t1
            have P2 := Lib.hid (hp.out.trans ho2 (fun _ _ h => h))
            have lx := block_of_cell t0
            clear ho2 hd hp CC hcell hbb
            unfold thrV
            obtain ⟨ny, hny⟩ := lt_get hy
            have hly := HLY.out ny (List.mem_of_getElem? hny)
            obtain ⟨gy, cy, ⟨p1, p2⟩, hvy, hvsy, qy1, qy2, _, _⟩ := hd2.out.1.bk.node hny
            have ky := hd2.out.1.c0
            have kby := hd2.out.1.bk.c0
            rw [hvy] at kby
            simp only at qy1 qy2
            have lO := block_of_cell ky
            have lB := block_of_cell kby
            have lG := block_of_cell qy1
            have hlit : Below w2.heap.size w2 (w2.alloc (.cells #[.int .i64 (k : Int)] 3)).drew := below_drewN ((Below.refl _ _).alloc (Nat.le_refl _) _) 1
            have HLI : Hid (IntsZ (w2.alloc (.cells #[.int .i64 (k : Int)] 3)).drew 0 (w2.alloc (.cells #[.int .i64 (k : Int)] 3)).drew.heap.size (.slice (some ⟨w2.heap.size, 0, none⟩) 1 1) (upL [k])) := Lib.hid (lit_ints w2 k)
            have hlz : w2.heap.size ≤ (w2.alloc (.cells #[.int .i64 (k : Int)] 3)).drew.heap.size := hlit.size
            obtain ⟨res, hres⟩ : ∃ res, woL nd.2 [k] nd.2.length = res := ⟨_, rfl⟩
            have hrl : res.length ≤ 1000 := by rw [← hres]; have := woL_len nd.2 [k] nd.2.length; omega
            have CWO := Lib.hid (without_calls (.slice (some ⟨b2, o2, none⟩) nd.2.length c2) (.slice (some ⟨w2.heap.size, 0, none⟩) 1 1) nd.2 [k] (w2.alloc (.cells #[.int .i64 (k : Int)] 3)).drew 0 w2.heap.size 0 _ hlz (Nat.le_refl _) ((inner_ints (hd2.out.1.bk.inner root nd _ HND.out HVS.out).2).below hlit (Nat.le_refl _)) HLI.out (by omega) res (Lib.hid hres))
            have HDL : Hid (OdN w0.heap.size (w2.alloc (.cells #[.int .i64 (k : Int)] 3)).drew base O B g n C bs vn vb vs ∧ AskM base g n C w (w2.alloc (.cells #[.int .i64 (k : Int)] 3)).drew) := Lib.hid ⟨hd2.out.1.only (Only.of_below hlit), hd2.out.2.below hlit⟩
            have HNY := Lib.hid hny
            have HVY := Lib.hid hvsy
            have P3 := Lib.hid (P2.out.trans (Only.of_below hlit) (fun _ _ h => h))
            have hS0 : w2.drew.cell? ⟨w0.heap.size, 0, none⟩ = some (.slice (some ⟨b1, o1, none⟩) nd.1.length c1) ∧ w2.drew.cell? ⟨w0.heap.size, 1, none⟩ = some (.slice (some ⟨b2, o2, none⟩) nd.2.length c2) ∧ w2.drew.cell? ⟨O, 0, none⟩ = some (.pointer (some ⟨B, 0, none⟩)) ∧ w2.drew.cell? ⟨B, 0, none⟩ = some (.slice (some ⟨gy, 0, none⟩) C.length cy) ∧ w2.drew.cell? ⟨gy, y * 2 + 1, none⟩ = some p2 := ⟨t0, t1, ky, kby, qy2⟩
            have hSL := sby_at hlit lx lO lB lG ⟨t0, t1, ky, kby, qy2⟩
            clear hny hvsy hres hvy
            go_upto_region 13 with fail
            go_cut [4, 5, 6] (fun s4 s5 s6 wx => s6 = .bool true ∧ Hid (AskM base g n C w wx ∧ Only w0 wx (fun b => b = g)))
            case first =>
              go_region_held3 (fun W : World => W.cell? ⟨w0.heap.size, 0, none⟩ = some (.slice (some ⟨b1, o1, none⟩) nd.1.length c1) ∧ W.cell? ⟨w0.heap.size, 1, none⟩ = some (.slice (some ⟨b2, o2, none⟩) nd.2.length c2) ∧ W.cell? ⟨O, 0, none⟩ = some (.pointer (some ⟨B, 0, none⟩)) ∧ W.cell? ⟨B, 0, none⟩ = some (.slice (some ⟨gy, 0, none⟩) C.length cy) ∧ W.cell? ⟨gy, y * 2 + 1, none⟩ = some p2) (first | exact hS0 | exact hSL | (go_split_ands; exact ⟨‹_›, ‹_›, ‹_›, ‹_›, ‹_›⟩) | (go_split_ands; exact sby_at hba2 lx lO lB lG ⟨‹_›, ‹_›, ‹_›, ‹_›, ‹_›⟩) | (go_split_ands; exact sby_at hb62 lx lO lB lG ⟨‹_›, ‹_›, ‹_›, ‹_›, ‹_›⟩) | (go_split_ands; exact sby_at ((Below.refl _ _).alloc (Nat.le_refl _) _) lx lO lB lG ⟨‹_›, ‹_›, ‹_›, ‹_›, ‹_›⟩)) (first
                | (refine step_app rfl _ _ rfl hown rfl HSRC.out rfl (by simp [upL]; omega) HBS ?_; intro v6 w6 hown6 hgrow6; have hb6 : Below (w2.alloc (.cells #[.int .i64 (k : Int)] 3)).drew.heap.size wa w6 := Below.grown (Below.refl _ _) hgrow6 HBS (fun q hq => (World.ownsRow.lt hown q hq).1); have hb62 : Below w2.heap.size wa w6 := hb6.mono hlz)
                | (go_at_call 118; (with_reducible refine CWO.out.mono ?_); rintro e wa ⟨va, rfl, hown, hba⟩; have HBS := hba.size; have hba2 : Below w2.heap.size (w2.alloc (.cells #[.int .i64 (k : Int)] 3)).drew wa := hba.mono hlz; have HDA : Hid (OdN w0.heap.size wa base O B g n C bs vn vb vs ∧ AskM base g n C w wa) := Lib.hid ⟨HDL.out.1.only (Only.of_below hba), HDL.out.2.below hba⟩; have HSRC := Lib.hid (inner_src ((HDA.out.1.bk.inner y ny _ HNY.out HVY.out).2))))
              all_goals
                have P6 : Only (w2.alloc (.cells #[.int .i64 (k : Int)] 3)).drew w6 (fun b => b = g) := (Only.of_below hba).trans (Only.of_grown (F := fun b => (w2.alloc (.cells #[.int .i64 (k : Int)] 3)).drew.heap.size ≤ b) hgrow6 (fun q e => (World.ownsRow.lt hown q e).1)) (fun i h1 h2 => by omega)
                have HF : Hid (AskM base g n C w w6 ∧ Only w0 w6 (fun b => b = g)) := Lib.hid ⟨ask_only HDL.out.2 P6 hgrow6 hown hba (by omega), P3.out.trans P6 (fun _ _ h => h)⟩
                clear hown hgrow6 hb6 hb62 hba hba2 P6
                go_wp2_with fail
                go_meet
                exact ⟨rfl, HF.out⟩
            case rest =>
              obtain ⟨rfl, hfin⟩ := hcut
              go_wp2_with fail
              exact bodyPost_ret (v := .tuple #[u4, u5, .bool true]) (by simp [results, Try.results86, go_sem]) rfl ⟨_, _, by rw [OK.out], hfin.out.1, hfin.out.2⟩
        · have hke : k = nd.2.length := by omega
          subst hke
          have OK : Hid (ok = false) := Lib.hid (by
            have h2 := hok.out
            rw [X1.out, X2.out, HL0.out, hrv.out] at h2
            simpa using h2.symm)
          have HF : Hid (AskM base g n C w wr ∧ Only w0 wr (fun b => b = g)) := Lib.hid ⟨hd.out.2, hp.out⟩
          clear hrv hd hp HL1 CT
          go_wp2_with fail
          exact bodyPost_ret (v := .tuple #[.slice none 0 0, .slice none 0 0, .bool false]) (by simp [results, Try.results86, go_sem]) rfl ⟨_, _, by rw [OK.out], HF.out.1, HF.out.2⟩
end

section
open Go.RowKit
set_option linter.unusedVariables false
set_option linter.unusedSimpArgs false

set_option maxRecDepth 100000 in
set_option maxHeartbeats 2000000 in
theorem l4OfG_calls (base B : Nat) (C : List Nd) (bs : List Nat) (vn vb : Value) (vs : List (Value × Value)) (w : World) (h : Bk base w B C bs vn vb vs (fun _ => False)) (h0 : 0 < C.length) (hl : C.length ≤ 1000) :
    Calls Try.prog 85 #[.pointer (some ⟨B, 0, none⟩)] w fun e w' => ∃ O g n, e = .returned (.pointer (some ⟨O, 0, none⟩)) ∧ Od w' base O B g n C bs vn vb vs ∧ RowK base g n (List.replicate (C.length * C.length) 0) w' ∧ Below w.heap.size w w' ∧ w.heap.size ≤ g := by
  obtain ⟨i0, hi0, hz0, hz1, hz2⟩ := info_parts infoIntA
  obtain ⟨nx, hnx⟩ := lt_get h0
  obtain ⟨gn, cn, _, hvn, _, _, _, _, _⟩ := h.node hnx
  obtain ⟨n, hn⟩ : ∃ n, C.length * C.length = n := ⟨_, rfl⟩
  have hni : (C.length : Int) * (C.length : Int) = (n : Int) := by rw [← hn]; simp
  have hnb : n ≤ 1000000 := by rw [← hn]; exact Nat.le_trans (Nat.mul_le_mul hl hl) (by omega)
  have kb := h.c0
  have HK := Lib.hid h
  rw [hvn] at kb
  rw [hn]
  clear hn hvn hnx h
  go_enter Try.func85, Try.ntmps85
  go_wp2_with fail
  obtain ⟨w1, hm, hown, hg⟩ := run_make_full (P := Try.prog) w.drew base 35 3 i0 (.int .i64 0) 1 Try.underlying35 hi0 hz0 hz1 .i64 .i64 n (by rw [hz2]; omega) (by unfold maxLen; omega) (by have := HK.out.lt B (Or.inl rfl); show base ≤ w.heap.size; omega)
  have HOWN := Lib.hid hown
  have HG := Lib.hid hg
  have hz : w1.heap.size = w1.heap.size := rfl
  have hwn : IntKind.i64.wrap (n : Int) = (n : Int) := IntWalk.i64_in _ (by omega)
  clear hown hg hz
  have HB1 : Hid (Below w.heap.size w (w1.alloc (.cells #[.pointer (some ⟨B, 0, none⟩), .slice (some ⟨w.heap.size, 0, none⟩) n n] 110))) := Lib.hid (by
    have h1 : Below w.heap.size w w1 := (below_drewN (Below.refl w.heap.size w) 1).grown HG.out (Nat.le_refl _) (fun k hk => by cases hk)
    exact h1.alloc h1.size _)
  have HR : Hid (RowK base w.heap.size n (List.replicate n 0) (w1.alloc (.cells #[.pointer (some ⟨B, 0, none⟩), .slice (some ⟨w.heap.size, 0, none⟩) n n] 110))) := Lib.hid (by
    have e : (madeCells (Value.int .i64 0).cells (n * 1)).toList = (List.replicate n 0).map (Value.int .i64) := by
      rw [List.map_replicate, Nat.mul_one]
      exact made_one' _ n
    have h1 := HOWN.out
    rw [e] at h1
    exact World.ownsRow.alloc h1 _)
  have hs1 : w.heap.size < w1.heap.size := (World.ownsRow.lt HOWN.out _ rfl).2
  have HOD : Hid (Od (w1.alloc (.cells #[.pointer (some ⟨B, 0, none⟩), .slice (some ⟨w.heap.size, 0, none⟩) n n] 110)) base w1.heap.size B w.heap.size n C bs vn vb vs) := Lib.hid
    ⟨by go_simp, by go_simp, (HK.out.reX (Y := fun b => b = w.heap.size) (fun b hb e => by omega)).below HB1.out, by omega, fun hF => by have := (HK.out.lt _ hF).2; omega⟩
  clear HOWN HG
  go_region_with (fail)
  all_goals
    go_wp2_with fail
    go_ret
    exact ⟨w1.heap.size, w.heap.size, n, rfl, HOD.out, HR.out, HB1.out, Nat.le_refl _⟩


set_option maxRecDepth 100000 in
set_option maxHeartbeats 8000000 in
theorem isCanonS_calls (va : Value) (f : List Nz) (ok r : Bool) (hok : Hid (goodB f = ok)) (hr : Hid (icV f = r)) (w : World) (lo hi : Nat) (hh : hi ≤ w.heap.size) (hva : NodesZ w lo hi va f) :
    Calls Try.prog 40 #[.agg #[va]] w fun e w' => e = .returned (.tuple #[.bool r, .bool ok]) ∧ Below w.heap.size w w' := by
  have HB0 := Lib.hid fun o => show Below w.heap.size w (w.alloc o) from ((Below.refl _ _).alloc (Nat.le_refl _) _)
  have CG := Lib.hid fun (W : World) (hW : Below w.heap.size w W) => goodS_res va f ok hok W lo hi (Nat.le_trans hh hW.size) (hva.below hW hh)
  have HVA := Lib.hid fun (W : World) (hW : Below w.heap.size w W) => hva.below hW hh
  clear hva
  go_enter Try.func40, Try.ntmps40
  go_wp2_with fail
  refine (CG.out _ (HB0.out _)).mono ?_
  rintro e w4 ⟨rfl, hb4⟩
  have k0 : w4.cell? ⟨w.heap.size, 0, none⟩ = some va := (bcell hb4 _ _ (by simp)).trans (by go_simp)
  have HB4 := Lib.hid ((HB0.out _).trans (hb4.mono (by simp)))
  clear hb4 CG
  cases ok with
  | false =>
    obtain rfl : r = false := by rw [← hr.out, icV_no hok.out]
    go_wp2_with fail
    exact bodyPost_ret (v := .tuple #[.bool false, .bool false]) (by simp [results, Try.results40, go_sem]) rfl ⟨rfl, HB4.out⟩
  | true =>
    have hg := hok.out
    obtain ⟨hf1, hf2, _⟩ := (goodB_iff f).1 hg
    have hbk := good_bookT hg
    have nA : (f.map downN).length = f.length := by simp
    have hpos := hf1.1
    have h120 := hf1.2.1
    have HRR : Hid (icP (f.map downN) f.length = r) := Lib.hid (by rw [← icV_yes hg]; exact hr.out)
    have hba : Below w4.heap.size w4 (w4.alloc (.cells #[.slice none 0 0, .slice none 0 0] 107)) := (Below.refl _ _).alloc (Nat.le_refl _) _
    have CA := Lib.hid (add_calls w4.heap.size w4.heap.size [] (.slice none 0 0) (.slice none 0 0) [] va (f.map downN) (w4.alloc (.cells #[.slice none 0 0, .slice none 0 0] 107)) lo hi (Nat.le_trans hh HB4.out.size) (bk_nil w4) book_nil (by rw [hf2.up.1]; exact (HVA.out w4 HB4.out).below hba (Nat.le_trans hh HB4.out.size)) hf2.up.2.under (by simp; omega) (downN_small hf1))
    rw [addF_book hbk] at CA
    simp only [nA] at CA
    have d0 := (bcell hba _ _ (block_of_cell k0)).trans k0
    have HGO := Lib.hid (fun o b (ho : o < (f.map downN).length) => good_opts hg o b ho)
    have HBK := Lib.hid hbk
    have hzb : (w4.alloc (.cells #[.slice none 0 0, .slice none 0 0] 107)).heap.size = w4.heap.size + 1 := by simp
    have HBA := Lib.hid hba
    clear hba hg hok hr hf1 hf2 hbk HVA
    go_wp2_with fail
    refine CA.out.mono ?_
    rintro e w6 ⟨ga, ca, vn, vb, vs, rfl, hat, hbk6, hon6, hft6⟩
    have HB6 : Hid (Below w4.heap.size w4 w6) := Lib.hid (HBA.out.trans (hon6.below (by omega) (fun x hx => by
      rcases hx with rfl | hx | hx
      · exact Nat.le_refl _
      · simp [Value.ownBlock] at hx
      · simp [Value.ownBlock] at hx)))
    have HAT := Lib.hid hat
    have CO := Lib.hid (l4OfG_calls w4.heap.size w4.heap.size (f.map downN) (bornsOf (f.map downN)) vn vb vs w6 hbk6 (by omega) (by omega))
    clear hat hbk6 hon6 hft6 CA d0
    go_wp2_with fail
    refine CO.out.mono ?_
    rintro e w7 ⟨O, g, n, rfl, hod, hrow, hb7, hgl⟩
    have HN7 := Lib.hid hod.toN
    have hg7 := (World.ownsRow.lt hrow g rfl).2
    have HA7 : Hid (AskM w4.heap.size g n (f.map downN) w7 w7) := Lib.hid ⟨_, Rt.zero _ _ _, hrow, Only.refl _ _⟩
    have HT7 := Lib.hid ((HAT.out.below hb7 (Nat.le_refl _)))
    have HB7 := Lib.hid (HB4.out.trans ((HB6.out.trans (hb7.mono HB6.out.size)).mono HB4.out.size))
    have HP7 : Hid (Only w7 w7 (fun b => b = g)) := Lib.hid (Only.refl _ _)
    have hz67 := hb7.size
    have hz7 := HB7.out.size
    clear hod hrow hb7 CO HAT
    have hwa : w4.heap.size ≤ w6.heap.size := HB6.out.size
    go_wp2
    go_loopg [7] f.length (fun nn q wr => ∃ k : Nat, nn + k = f.length ∧ q = .int .i64 k ∧ Hid (icP (f.map downN) k = true) ∧ Hid (OdN w7.heap.size wr w4.heap.size O w4.heap.size g n (f.map downN) (bornsOf (f.map downN)) vn vb vs ∧ AskM w4.heap.size g n (f.map downN) w7 wr) ∧ Hid (Only w7 wr (fun b => b = g)))
    case atStart => exact ⟨0, by omega, rfl, Lib.hid rfl, Lib.hid ⟨HN7.out, HA7.out⟩, HP7⟩
    case round =>
      clear HN7 HA7 HP7
      obtain ⟨k, hgk, rfl, hic, hd, hp⟩ := hrel
      by_cases hlt : k < f.length
      · obtain ⟨n0, rfl⟩ : ∃ n0, gk = n0 + 1 := ⟨gk - 1, by omega⟩
        obtain ⟨wo, rfl⟩ : ∃ W : World, W = wr := ⟨_, rfl⟩
        obtain ⟨nd, hnd⟩ := lt_get (l := f.map downN) (i := k) (by omega)
        obtain ⟨gn, cn, ⟨a1, a2⟩, hvn, hvs, q1, q2, in1, in2⟩ := hd.out.1.bk.node hnd
        simp only at q1 q2 in1 in2
        have HI1 := Lib.hid in1
        have HI2 := Lib.hid in2
        obtain ⟨b1, o1, c1, hv1, hb1, hnF1, _⟩ := in1
        obtain ⟨b2, o2, c2, hv2, hb2, hnF2, _⟩ := in2
        subst hv1 hv2
        have kb := hd.out.1.bk.c0
        rw [hvn, nA] at kb
        have ix0 : (0 : Int) ≤ k := by omega
        have ix1 : (k : Int) < f.length := by omega
        have hka : (List.range f.length)[k]? = some k := List.getElem?_range hlt
        obtain ⟨ba, oa, ea, hbal, hca⟩ := ints_at HT7.out hka
        have e9 : ga = ba ∧ 0 = oa := by
          injection ea with ea
          injection ea with e1 e2 _
          exact ⟨e1, e2⟩
        obtain ⟨rfl, rfl⟩ := e9
        clear ea hka
        have ta : wo.cell? ⟨ga, 0 + k, none⟩ = some (.int .i64 (k : Int)) := (hp.out.cell (by omega) (by omega)).trans hca
        have ta' : wo.cell? ⟨ga, k, none⟩ = some (.int .i64 (k : Int)) := by rw [Nat.zero_add] at ta; exact ta
        have hsz : w7.heap.size ≤ wo.heap.size := hp.out.size
        have HBX : Hid (Below wo.heap.size wo (wo.alloc (.cells #[.slice none 0 0, .slice none 0 0] 67)).drew) := Lib.hid (below_drewN ((Below.refl _ _).alloc (Nat.le_refl _) _) 1)
        clear hca
        have lga := block_of_cell ta'
        have lbk := block_of_cell kb
        have lgn := block_of_cell q1
        have f1 : (wo.alloc (.cells #[.slice none 0 0, .slice none 0 0] 67)).drew.cell? ⟨ga, k, none⟩ = some (.int .i64 (k : Int)) := (bcell HBX.out _ _ lga).trans ta'
        have f2 : (wo.alloc (.cells #[.slice none 0 0, .slice none 0 0] 67)).drew.cell? ⟨w4.heap.size, 0, none⟩ = some (.slice (some ⟨gn, 0, none⟩) f.length cn) := (bcell HBX.out _ _ lbk).trans kb
        have f3 : (wo.alloc (.cells #[.slice none 0 0, .slice none 0 0] 67)).drew.cell? ⟨gn, k * 2, none⟩ = some (.slice (some ⟨b1, o1, none⟩) nd.1.length c1) := (bcell HBX.out _ _ lgn).trans q1
        have f4 : (wo.alloc (.cells #[.slice none 0 0, .slice none 0 0] 67)).drew.cell? ⟨gn, k * 2 + 1, none⟩ = some (.slice (some ⟨b2, o2, none⟩) nd.2.length c2) := (bcell HBX.out _ _ lgn).trans q2
        have f5 : (wo.alloc (.cells #[.slice none 0 0, .slice none 0 0] 67)).drew.cell? ⟨wo.heap.size, 0, none⟩ = some (.slice none 0 0) := by show (wo.alloc (.cells #[.slice none 0 0, .slice none 0 0] 67)).cell? _ = _; go_simp
        have f6 : (wo.alloc (.cells #[.slice none 0 0, .slice none 0 0] 67)).drew.cell? ⟨wo.heap.size, 1, none⟩ = some (.slice none 0 0) := by show (wo.alloc (.cells #[.slice none 0 0, .slice none 0 0] 67)).cell? _ = _; go_simp
        have f7 : (wo.alloc (.cells #[.slice none 0 0, .slice none 0 0] 67)).drew.frozen? ⟨wo.heap.size, 0, none⟩ = false := by go_simp
        have f8 : (wo.alloc (.cells #[.slice none 0 0, .slice none 0 0] 67)).drew.frozen? ⟨wo.heap.size, 1, none⟩ = false := by go_simp
        have g6 : ((wo.alloc (.cells #[.slice none 0 0, .slice none 0 0] 67)).drew.setCell ⟨wo.heap.size, 0, none⟩ (.slice (some ⟨b1, o1, none⟩) nd.1.length c1)).cell? ⟨wo.heap.size, 1, none⟩ = some (.slice none 0 0) := by go_simp
        have g8 : ((wo.alloc (.cells #[.slice none 0 0, .slice none 0 0] 67)).drew.setCell ⟨wo.heap.size, 0, none⟩ (.slice (some ⟨b1, o1, none⟩) nd.1.length c1)).frozen? ⟨wo.heap.size, 1, none⟩ = false := by go_simp
        go_upto_region 9 with fail
        go_cut [8] (fun s8 wx => s8 = .pointer (some ⟨wo.heap.size, 0, none⟩) ∧ wx.cell? ⟨wo.heap.size, 0, none⟩ = some (.slice (some ⟨b1, o1, none⟩) nd.1.length c1) ∧ wx.cell? ⟨wo.heap.size, 1, none⟩ = some (.slice (some ⟨b2, o2, none⟩) nd.2.length c2) ∧ Hid (Below wo.heap.size wo wx))
        case first =>
          go_region
          all_goals
            go_wp2_with fail
            go_meet
            exact ⟨rfl, by go_simp, by go_simp, Lib.hid (below_drewN ((Below.refl _ _).alloc (Nat.le_refl _) _) 1)⟩
        case rest =>
          clear f1 f2 f3 f4 f5 f6 f7 f8 g6 g8 q1 q2 ta ta' kb HBX
          obtain ⟨rfl, t0, t1, hbx⟩ := hcut
          have lx := block_of_cell t0
          have hu := HBK.out.struct.under
          have e1 : optsD (f.map downN) k true = nd.1 := by unfold optsD; rw [nodeD_at hnd]; rfl
          have e2 : optsD (f.map downN) k false = nd.2 := by unfold optsD; rw [nodeD_at hnd]; rfl
          have l1 : nd.1.length ≤ 24 := by rw [← e1]; exact HGO.out _ _ (by omega)
          have l2 : nd.2.length ≤ 24 := by rw [← e2]; exact HGO.out _ _ (by omega)
          have u1 : ∀ o, o ∈ nd.1 → o < (f.map downN).length := fun o ho => by have := hu _ nd hnd o (Or.inl ho); omega
          have u2 : ∀ o, o ∈ nd.2 → o < (f.map downN).length := fun o ho => by have := hu _ nd hnd o (Or.inr ho); omega
          obtain ⟨m1, hm1⟩ : ∃ m, (domX (f.map downN) k true).length = m := ⟨_, rfl⟩
          obtain ⟨m2, hm2⟩ : ∃ m, (domX (f.map downN) k false).length = m := ⟨_, rfl⟩
          have M1 : (domG (f.map downN) nd.1 true nd.1.length).length = m1 := by rw [← hm1]; unfold domX; rw [e1]
          have M2 : (domG (f.map downN) nd.2 false nd.2.length).length = m2 := by rw [← hm2]; unfold domX; rw [e2]
          have lm1 : m1 ≤ 1000 := by rw [← M1]; have := domG_len (f.map downN) nd.1 true nd.1.length; omega
          have lm2 : m2 ≤ 1000 := by rw [← M2]; have := domG_len (f.map downN) nd.2 false nd.2.length; omega
          have HM1 := Lib.hid hm1
          have HM2 := Lib.hid hm2
          have HPX : Hid (Only w7 wc (fun b => b = g)) := Lib.hid (hp.out.trans (Only.of_below hbx.out) (fun _ _ h => h))
          have hd5 : Below wc.heap.size wc wc.drew := below_drewN (Below.refl _ _) 1
          have hzx : wo.heap.size < wc.drew.heap.size := lx
          have hzd : wc.drew.heap.size = wc.heap.size := rfl
          have CA := Lib.hid fun (W0 : World) (h0 : W0.cell? ⟨wo.heap.size, 0, none⟩ = some (.slice (some ⟨b1, o1, none⟩) nd.1.length c1)) (h1 : W0.cell? ⟨wo.heap.size, 1, none⟩ = some (.slice (some ⟨b2, o2, none⟩) nd.2.length c2)) (h2 : Hid (OdN w7.heap.size W0 w4.heap.size O w4.heap.size g n (f.map downN) (bornsOf (f.map downN)) vn vb vs ∧ AskM w4.heap.size g n (f.map downN) w7 W0)) (hz : wo.heap.size < W0.heap.size) =>
            (dominatedS_calls w4.heap.size O w4.heap.size g n (f.map downN) (bornsOf (f.map downN)) vn vb vs HBK.out (by omega) true (.slice (some ⟨b1, o1, none⟩) nd.1.length c1) nd.1 u1 (by omega) w7 W0 w7.heap.size (Nat.le_refl _) (by omega) hg7 (Lib.hid (fun W hW => (hW.bk.inner _ nd ((.slice (some ⟨b1, o1, none⟩) nd.1.length c1), (.slice (some ⟨b2, o2, none⟩) nd.2.length c2)) hnd hvs).1)) h2.out.1 h2.out.2).mono fun e w' hp => (⟨hp.choose, hp.choose_spec.1, (by obtain ⟨a, c, e, _⟩ := hp.choose_spec.2.1.ints; exact ⟨a, c, e.trans (by rw [← M1]; rfl)⟩), ⟨(hp.choose_spec.2.2.2.cell hz (by omega)).trans h0, (hp.choose_spec.2.2.2.cell hz (by omega)).trans h1, Lib.hid ⟨h2.out.1.only (hp.choose_spec.2.2.2.mono (fun _ _ e => by omega)), hp.choose_spec.2.2.1⟩⟩, hp.choose_spec.2.2.2⟩ : ∃ v, e = .returned v ∧ (∃ a c, v = .slice a m1 c) ∧ (w'.cell? ⟨wo.heap.size, 0, none⟩ = some (.slice (some ⟨b1, o1, none⟩) nd.1.length c1) ∧ w'.cell? ⟨wo.heap.size, 1, none⟩ = some (.slice (some ⟨b2, o2, none⟩) nd.2.length c2) ∧ Hid (OdN w7.heap.size w' w4.heap.size O w4.heap.size g n (f.map downN) (bornsOf (f.map downN)) vn vb vs ∧ AskM w4.heap.size g n (f.map downN) w7 w')) ∧ Only W0 w' (fun b => b = g ∨ W0.heap.size ≤ b))
          have CB := Lib.hid fun (W0 : World) (h0 : W0.cell? ⟨wo.heap.size, 0, none⟩ = some (.slice (some ⟨b1, o1, none⟩) nd.1.length c1)) (h1 : W0.cell? ⟨wo.heap.size, 1, none⟩ = some (.slice (some ⟨b2, o2, none⟩) nd.2.length c2)) (h2 : Hid (OdN w7.heap.size W0 w4.heap.size O w4.heap.size g n (f.map downN) (bornsOf (f.map downN)) vn vb vs ∧ AskM w4.heap.size g n (f.map downN) w7 W0)) (hz : wo.heap.size < W0.heap.size) =>
            (dominatedS_calls w4.heap.size O w4.heap.size g n (f.map downN) (bornsOf (f.map downN)) vn vb vs HBK.out (by omega) false (.slice (some ⟨b2, o2, none⟩) nd.2.length c2) nd.2 u2 (by omega) w7 W0 w7.heap.size (Nat.le_refl _) (by omega) hg7 (Lib.hid (fun W hW => (hW.bk.inner _ nd ((.slice (some ⟨b1, o1, none⟩) nd.1.length c1), (.slice (some ⟨b2, o2, none⟩) nd.2.length c2)) hnd hvs).2)) h2.out.1 h2.out.2).mono fun e w' hp => (⟨hp.choose, hp.choose_spec.1, (by obtain ⟨a, c, e, _⟩ := hp.choose_spec.2.1.ints; exact ⟨a, c, e.trans (by rw [← M2]; rfl)⟩), ⟨(hp.choose_spec.2.2.2.cell hz (by omega)).trans h0, (hp.choose_spec.2.2.2.cell hz (by omega)).trans h1, Lib.hid ⟨h2.out.1.only (hp.choose_spec.2.2.2.mono (fun _ _ e => by omega)), hp.choose_spec.2.2.1⟩⟩, hp.choose_spec.2.2.2⟩ : ∃ v, e = .returned v ∧ (∃ a c, v = .slice a m2 c) ∧ (w'.cell? ⟨wo.heap.size, 0, none⟩ = some (.slice (some ⟨b1, o1, none⟩) nd.1.length c1) ∧ w'.cell? ⟨wo.heap.size, 1, none⟩ = some (.slice (some ⟨b2, o2, none⟩) nd.2.length c2) ∧ Hid (OdN w7.heap.size w' w4.heap.size O w4.heap.size g n (f.map downN) (bornsOf (f.map downN)) vn vb vs ∧ AskM w4.heap.size g n (f.map downN) w7 w')) ∧ Only W0 w' (fun b => b = g ∨ W0.heap.size ≤ b))
          have hS0 : wc.drew.cell? ⟨wo.heap.size, 0, none⟩ = some (.slice (some ⟨b1, o1, none⟩) nd.1.length c1) ∧ wc.drew.cell? ⟨wo.heap.size, 1, none⟩ = some (.slice (some ⟨b2, o2, none⟩) nd.2.length c2) ∧ Hid (OdN w7.heap.size wc.drew w4.heap.size O w4.heap.size g n (f.map downN) (bornsOf (f.map downN)) vn vb vs ∧ AskM w4.heap.size g n (f.map downN) w7 wc.drew) := ⟨t0, t1, Lib.hid ⟨(hd.out.1.only (Only.of_below hbx.out)).only (Only.of_below hd5), (hd.out.2.below hbx.out).below hd5⟩⟩
          clear t0 t1 hd hp hm1 hm2 M1 M2 hu u1 u2 e1 e2
          obtain ⟨bq, hbq⟩ : ∃ b : Bool, decide (0 < m1 + m2) = b := ⟨_, rfl⟩
          have HBQ := Lib.hid hbq
          have hwg : w.heap.size ≤ g := by have := HB4.out.size; omega
          clear hbq
          go_upto_region 10 with fail
          go_cut [49] (fun s49 wy => s49 = .bool bq ∧ wy.cell? ⟨wo.heap.size, 0, none⟩ = some (.slice (some ⟨b1, o1, none⟩) nd.1.length c1) ∧ wy.cell? ⟨wo.heap.size, 1, none⟩ = some (.slice (some ⟨b2, o2, none⟩) nd.2.length c2) ∧ Hid (OdN w7.heap.size wy w4.heap.size O w4.heap.size g n (f.map downN) (bornsOf (f.map downN)) vn vb vs ∧ AskM w4.heap.size g n (f.map downN) w7 wy) ∧ Hid (Only w7 wy (fun b => b = g)))
          case first =>
            go_region_held3 (fun W : World => W.cell? ⟨wo.heap.size, 0, none⟩ = some (.slice (some ⟨b1, o1, none⟩) nd.1.length c1) ∧ W.cell? ⟨wo.heap.size, 1, none⟩ = some (.slice (some ⟨b2, o2, none⟩) nd.2.length c2) ∧ Hid (OdN w7.heap.size W w4.heap.size O w4.heap.size g n (f.map downN) (bornsOf (f.map downN)) vn vb vs ∧ AskM w4.heap.size g n (f.map downN) w7 W)) (first | exact hS0 | exact hS1 | exact hS2 | (go_split_ands; exact ⟨‹_›, ‹_›, ‹_›⟩)) (first
              | (go_at_call 78; go_split_ands; (with_reducible refine (CA.out _ (by assumption) (by assumption) (by assumption) (by assumption)).mono ?_); rintro e wa ⟨_, rfl, ⟨a1, d1, rfl⟩, hS1, hp1⟩; have hz1 : wo.heap.size < wa.heap.size := Nat.lt_of_lt_of_le lx hp1.size)
              | (go_at_call 78; go_split_ands; (with_reducible refine (CB.out _ (by assumption) (by assumption) (by assumption) (by assumption)).mono ?_); rintro e wb ⟨_, rfl, ⟨a2, d2, rfl⟩, hS2, hp2⟩))
            all_goals
              go_wp2_with fail
              go_meet
              have hw3 : IntKind.i64.wrap ((m1 : Int) + (m2 : Int)) = (m1 : Int) + (m2 : Int) := IntWalk.i64_in _ (by omega)
              refine ⟨?_, hS2.1, hS2.2.1, hS2.2.2, Lib.hid (((HPX.out.trans (Only.of_below hd5) (fun _ _ h => h)).trans hp1 (fun i h1 h2 => by omega)).trans hp2 (fun i h1 h2 => by omega))⟩
              rw [hw3, ← HBQ.out]
              congr 1
              exact decide_eq_decide.2 (by omega)
          case rest =>
            clear CA CB hS0 HPX hbx hd5 hzd hzx lx
            obtain ⟨rfl, t0, t1, hdy, hpy⟩ := hcut
            cases bq with
            | true =>
              have h0 : 0 < m1 + m2 := of_decide_eq_true HBQ.out
              have RF : Hid (r = false) := Lib.hid (by
                rw [← HRR.out]
                refine icP_no hlt ?_
                unfold icN
                rcases Nat.eq_zero_or_pos m1 with e | e
                · rw [icB_dom HM2.out (by omega)]; simp
                · rw [icB_dom HM1.out (by omega)]; rfl)
              have BF : Hid (Below w.heap.size w wc) := Lib.hid (HB7.out.trans (hpy.out.below hz7 (fun b e => by omega)))
              clear hdy hpy hic t0 t1
              go_wp2_with fail
              exact bodyPost_ret (v := .tuple #[.bool false, .bool true]) (by simp [results, Try.results40, go_sem]) rfl ⟨by rw [RF.out], BF.out⟩
            | false =>
              have h0 : ¬ 0 < m1 + m2 := of_decide_eq_false HBQ.out
              have z1 : m1 = 0 := by omega
              have z2 : m2 = 0 := by omega
              obtain ⟨okb, hokb⟩ : ∃ b : Bool, (decide ((revX (f.map downN) k true).length = 0) && decide ((revX (f.map downN) k false).length = 0)) = !b := ⟨!(_), (Bool.not_not _).symm⟩
              have HOB := Lib.hid hokb
              have lyy := block_of_cell t0
              have CBy := Lib.hid (bypassS_calls w4.heap.size O w4.heap.size g n (f.map downN) (bornsOf (f.map downN)) vn vb vs HBK.out (by omega) k (by omega) (fun nd' h' => ⟨by have := HGO.out k true (by omega); unfold optsD at this; rw [nodeD_at h'] at this; exact Nat.le_trans this (by omega), by have := HGO.out k false (by omega); unfold optsD at this; rw [nodeD_at h'] at this; exact Nat.le_trans this (by omega)⟩) (fun nd' h' => by
                obtain ⟨i, hi, e⟩ := List.getElem_of_mem h'
                have h2 : (f.map downN)[i]? = some nd' := by rw [List.getElem?_eq_getElem hi, e]
                exact ⟨by have := HGO.out i true hi; unfold optsD at this; rw [nodeD_at h2] at this; exact Nat.le_trans this (by omega), by have := HGO.out i false hi; unfold optsD at this; rw [nodeD_at h2] at this; exact Nat.le_trans this (by omega)⟩) okb HOB w7 wc (by omega) (by omega) hdy.out.1.od hdy.out.2)
              have ta : wc.cell? ⟨ga, k, none⟩ = some (.int .i64 (k : Int)) := by
                obtain ⟨ba, oa, ea, hbal', hca⟩ := ints_at HT7.out (List.getElem?_range hlt)
                have e9 : ga = ba ∧ 0 = oa := by
                  injection ea with ea
                  injection ea with e1 e2 _
                  exact ⟨e1, e2⟩
                rw [← e9.1, ← e9.2, Nat.zero_add] at hca
                exact (hpy.out.cell (by omega) (by omega)).trans hca
              clear hokb
              go_wp2_with fail
              refine CBy.out.mono ?_
              rintro e w9 ⟨v1, v2, rfl, ha9, ho9⟩
              have HD9 : Hid (OdN w7.heap.size w9 w4.heap.size O w4.heap.size g n (f.map downN) (bornsOf (f.map downN)) vn vb vs ∧ AskM w4.heap.size g n (f.map downN) w7 w9) := Lib.hid ⟨hdy.out.1.only (ho9.mono (fun _ _ e => Or.inl e)), ha9⟩
              have HP9 := Lib.hid (hpy.out.trans ho9 (fun _ _ h => h))
              clear CBy ha9 ho9 hdy hpy t0 t1
              cases okb with
              | true =>
                have RF : Hid (r = false) := Lib.hid (by
                  rw [← HRR.out]
                  refine icP_no hlt ?_
                  unfold icN icB
                  have h3 := HOB.out
                  simp only [Bool.not_true, Bool.and_eq_false_iff] at h3
                  rcases h3 with h3 | h3
                  · rw [h3]; simp
                  · rw [h3]; simp)
                have BF : Hid (Below w.heap.size w w9) := Lib.hid (HB7.out.trans (HP9.out.below hz7 (fun b e => by omega)))
                clear HD9 HP9 hic
                go_wp2_with fail
                exact bodyPost_ret (v := .tuple #[.bool false, .bool true]) (by simp [results, Try.results40, go_sem]) rfl ⟨by rw [RF.out], BF.out⟩
              | false =>
                have HIC : Hid (icP (f.map downN) (k + 1) = true) := Lib.hid (by
                  rw [icP_succ, hic.out]
                  have h3 := HOB.out
                  simp only [Bool.not_false, Bool.and_eq_true, decide_eq_true_eq] at h3
                  unfold icN
                  rw [icB_yes (HM1.out.trans z1) h3.1, icB_yes (HM2.out.trans z2) h3.2]
                  rfl)
                clear hic
                go_wp2_with fail
                go_roundg n0
                case measure => omega
                case rel => exact ⟨k + 1, by omega, by go_num, HIC, HD9, HP9⟩
      · have hke : k = f.length := by omega
        subst hke
        have RT : Hid (r = true) := Lib.hid (by rw [← HRR.out]; exact hic.out)
        have hwg : w.heap.size ≤ g := by have := HB4.out.size; omega
        have BF : Hid (Below w.heap.size w wr) := Lib.hid (HB7.out.trans (hp.out.below hz7 (fun b e => by omega)))
        clear hic hd hp
        go_wp2_with fail
        exact bodyPost_ret (v := .tuple #[.bool true, .bool true]) (by simp [results, Try.results40, go_sem]) rfl ⟨by rw [RT.out], BF.out⟩
end

end Go.Proofs.Ytjllpcnbahdmhaa
