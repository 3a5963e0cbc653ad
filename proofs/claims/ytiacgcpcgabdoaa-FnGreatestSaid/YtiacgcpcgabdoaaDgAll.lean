/- Draws of a list of games. -/
import Derived.Test.YtiacgcpcgabdoaaDrAll
import Derived.Test.YtiacgcpcgabdoaaFmLaw
namespace Go.Proofs.Ytiacgcpcgabdoaa
section
open Go.RowKit
set_option linter.unusedVariables false
set_option linter.unusedSimpArgs false

/-- a growing list of games, each in blocks of its own -/
structure GzL (s : Nat) (w : World) (g c : Nat) (us : List Value) (Gs : List (List Nz)) : Prop where
  row : w.ownsRow s 26 1 (.slice (some ⟨g, 0, none⟩) Gs.length c) Gs.length us
  len : us.length = Gs.length
  each : ∀ (j : Nat) (u : Value) (f : List Nz), us[j]? = some u → Gs[j]? = some f → ∃ lo hi, s ≤ lo ∧ hi ≤ w.heap.size ∧ (g < lo ∨ hi ≤ g) ∧ NodesZ w lo hi u f

theorem GzL.lt {s : Nat} {w : World} {g c : Nat} {us : List Value} {Gs : List (List Nz)} (h : GzL s w g c us Gs) : s ≤ g ∧ g < w.heap.size := World.ownsRow.lt h.row g rfl

theorem GzL.only {s : Nat} {w w' : World} {g c : Nat} {us : List Value} {Gs : List (List Nz)} {F : Nat → Prop} (h : GzL s w g c us Gs) (ho : Only w w' F) (hF : ∀ b, s ≤ b → b < w.heap.size → ¬ F b) : GzL s w' g c us Gs :=
  ⟨own_only h.row ho (fun x hx => by have := World.ownsRow.lt h.row x hx; exact hF x this.1 this.2), h.len, fun j u f h1 h2 => by
    obtain ⟨lo, hi, e1, e2, e3, e4⟩ := h.each j u f h1 h2
    exact ⟨lo, hi, e1, Nat.le_trans e2 ho.size, e3, e4.keep (fun b o g1 g2 => ho.cell (by omega) (hF b (by omega) (by omega)))⟩⟩

theorem GzL.new (s : Nat) (w : World) (hs : s ≤ w.heap.size) (T : TypeId) (hT : T = 26) : GzL s (w.alloc (.cells #[] T)) w.heap.size 0 [] [] := by
  subst hT
  exact ⟨World.ownsRow_lit (base := s) (e := 26) (size := 1) w #[] 0 hs (by unfold maxLen; omega) rfl, rfl, fun j u f h _ => by simp at h⟩

theorem GzL.formsZ {s : Nat} {w : World} {g c : Nat} {us : List Value} {Gs : List (List Nz)} (h : GzL s w g c us Gs) : FormsZ w s w.heap.size (.slice (some ⟨g, 0, none⟩) Gs.length c) Gs := by
  have hlt := h.lt
  refine ⟨_, c, rfl, World.ownsRow.caps h.row, fun j f hj => ?_⟩
  obtain ⟨u, hu⟩ := lt_get (l := us) (i := j) (by rw [h.len]; exact get_lt hj)
  obtain ⟨lo, hi, e1, e2, e3, e4⟩ := h.each j u f hu hj
  exact ⟨g, 0, u, rfl, hlt.1, hlt.2, by rw [Nat.zero_add, World.ownsRow.cellAt h.row j (by have := get_lt hj; omega), hu], e4.wide e1 e2⟩

theorem GzL.push {s : Nat} {w4 w5 : World} {g c g' c' lo hi : Nat} {us : List Value} {Gs : List (List Nz)} {u : Value} {f : List Nz} {T : TypeId} (h : GzL s w4 g c us Gs)
    (hu : NodesZ w4 lo hi u f) (h1 : s ≤ lo) (h2 : hi ≤ w4.heap.size) (h3 : g < lo ∨ hi ≤ g) (hown : w5.ownsRow s 26 1 (.slice (some ⟨g', 0, none⟩) (Gs.length + 1) c') (Gs.length + 1) (us ++ [u]))
    (hg : (w4.alloc (.cells #[u] T)).grownBy w5 (Value.slice (some ⟨g, 0, none⟩) Gs.length c).ownBlock) (hat : (Value.slice (some ⟨g', 0, none⟩) (Gs.length + 1) c').ownBlock = (Value.slice (some ⟨g, 0, none⟩) Gs.length c).ownBlock ∨ (Value.slice (some ⟨g', 0, none⟩) (Gs.length + 1) c').ownBlock = some (w4.alloc (.cells #[u] T)).heap.size) :
    GzL s w5 g' c' (us ++ [u]) (Gs ++ [f]) ∧ Only w4 w5 (fun b => b = g) := by
  have hal : Below w4.heap.size w4 (w4.alloc (.cells #[u] T)) := (Below.refl _ _).alloc (Nat.le_refl _) _
  have ho : Only w4 w5 (fun b => b = g) := (Only.of_below (F := fun b => b = g) hal).trans (Only.of_grown (F := fun b => b = g) hg (fun x e => by injection e with e; exact e.symm)) (fun _ _ h => h)
  have hz : (w4.alloc (.cells #[u] T)).heap.size = w4.heap.size + 1 := by simp
  have hs := ho.size
  have hgg : g' = g ∨ g' = w4.heap.size + 1 := by
    rcases hat with e | e
    · left; injection e
    · right; rw [hz] at e; injection e
  have hmove : ∀ (u : Value) (f : List Nz) (lo hi : Nat), hi ≤ w4.heap.size → (g < lo ∨ hi ≤ g) → NodesZ w4 lo hi u f → (g' < lo ∨ hi ≤ g') ∧ NodesZ w5 lo hi u f := fun u f lo hi e1 e2 e3 =>
    ⟨by rcases hgg with e | e <;> omega, e3.keep (fun b o g1 g2 => ho.cell (by omega) (by omega))⟩
  refine ⟨⟨by rw [List.length_append]; exact hown, by simp [h.len], fun j u' f' g1 g2 => ?_⟩, ho⟩
  rcases Nat.lt_or_ge j us.length with hlt | hge
  · rw [List.getElem?_append_left hlt] at g1
    rw [List.getElem?_append_left (by rw [← h.len]; exact hlt)] at g2
    obtain ⟨lo', hi', e1, e2, e3, e4⟩ := h.each j u' f' g1 g2
    obtain ⟨k1, k2⟩ := hmove u' f' lo' hi' e2 e3 e4
    exact ⟨lo', hi', e1, by omega, k1, k2⟩
  · have hj := get_lt g1
    simp at hj
    have : j = us.length := by omega
    subst this
    rw [List.getElem?_append_right (Nat.le_refl _)] at g1
    rw [h.len, List.getElem?_append_right (Nat.le_refl _)] at g2
    simp at g1 g2
    subst g1 g2
    obtain ⟨k1, k2⟩ := hmove u f lo hi h2 h3 hu
    exact ⟨lo, hi, h1, by omega, k1, k2⟩

/-- what a draw of a list hands back -/
def DrawList (w : World) (e : Ending) (w' : World) : Prop := ∃ (g c : Nat) (Gs : List (List Nz)), e = .returned (.slice (some ⟨g, 0, none⟩) Gs.length c) ∧ Gs.length ≤ 30 ∧ FormsZ w' w.heap.size w'.heap.size (.slice (some ⟨g, 0, none⟩) Gs.length c) Gs ∧ Below w.heap.size w w'

set_option maxRecDepth 100000 in
set_option maxHeartbeats 8000000 in
theorem drawGreatest_calls (ao : Option Addr) (n cc : Nat) (w : World) (hc : CodeIn w (.slice ao n cc) n) (hn : n ≤ 1000000) :
    Calls Try.prog 20 #[.slice ao n cc] w (DrawList w) := by
  obtain ⟨i0, hi0, hz0, hz1, hz2⟩ := info_parts infoFormA
  have HPK := Lib.hid fun (W : World) (M m : Nat) (hM : M ≤ 90000) (h1 : 1 ≤ m) (h2 : m ≤ 100000) (hW : Cur w W w.heap.size (.slice ao n cc) M) => pick_calls w W w.heap.size n M m (.slice ao n cc) hc hn hW hM h1 h2
  have HON := Lib.hid fun (W : World) (M m : Nat) (hM : M ≤ 90000) (h1 : 1 ≤ m) (h2 : m ≤ 100000) (hW : Cur w W w.heap.size (.slice ao n cc) M) => one_calls w W w.heap.size n M m (.slice ao n cc) hc hn hW hM h1 h2
  have HFO := Lib.hid fun (W : World) (M : Nat) (hM : M ≤ 1000) (hW : Cur w W w.heap.size (.slice ao n cc) M) => form_draw w W w.heap.size n M (.slice ao n cc) hc hn hW 1 (by omega) (by omega)
  have HAN := Lib.hid fun (W : World) (M : Nat) (hM : M ≤ 1000) (hW : Cur w W w.heap.size (.slice ao n cc) M) => any_draw w W w.heap.size n M (.slice ao n cc) hc hn hW 2 (by omega) (by omega)
  have hbq : Below w.heap.size w (w.alloc (.cells #[.slice ao n cc, .int .i64 0, .int .u64 0] 60)) := (Below.refl _ _).alloc (Nat.le_refl _) _
  have hzq : (w.alloc (.cells #[.slice ao n cc, .int .i64 0, .int .u64 0] 60)).heap.size = w.heap.size + 1 := by simp
  have hcq := cur_new w (.slice ao n cc)
  have hG := GzL.new (w.heap.size + 1) (w.alloc (.cells #[.slice ao n cc, .int .i64 0, .int .u64 0] 60)) (by omega) 26 rfl
  rw [hzq] at hG
  have hb2 : Below (w.heap.size + 1) (w.alloc (.cells #[.slice ao n cc, .int .i64 0, .int .u64 0] 60)) ((w.alloc (.cells #[.slice ao n cc, .int .i64 0, .int .u64 0] 60)).alloc (.cells #[] 26)) := (Below.refl _ _).alloc (by omega) _
  have HG0 := Lib.hid hG
  have HC0 := Lib.hid (hcq.below (by rw [hzq]; exact hb2))
  have HB0 := Lib.hid (hbq.trans (hb2.mono (by omega)))
  clear hc hn hbq hcq hG hb2
  go_enter Try.func20, Try.ntmps20
  go_wp2_with fail
  refine (HPK.out _ 0 6 (by omega) (by omega) (by omega) HC0.out).mono ?_
  rintro e w1 ⟨⟨r, hr, rfl⟩, hc1, hg1⟩
  have ho1 := only_cur hg1
  have HG1 := Lib.hid (HG0.out.only ho1 (fun b h1 h2 e => by omega))
  have HC1 := Lib.hid hc1
  have HB1 := Lib.hid (HB0.out.trans (ho1.below (base := w.heap.size) (by simp; omega) (fun g e => by omega)))
  clear hc1 hg1 ho1 HG0 HC0 HB0
  go_wp2
  go_loopw [4, 5] (fun l i wr => ∃ (m g c : Nat) (us : List Value) (Gs : List (List Nz)), i = .int .i64 m ∧ l = .slice (some ⟨g, 0, none⟩) Gs.length c ∧ Gs.length + m = r ∧ Hid (GzL (w.heap.size + 1) wr g c us Gs) ∧ Hid (Cur w wr w.heap.size (.slice ao n cc) (2 + 16 * Gs.length)) ∧ Hid (Below w.heap.size w wr)) (fun _ i _ => (intOf i).toNat)
  case atStart => exact ⟨r, w.heap.size + 1, 0, [], [], rfl, rfl, by simp, HG1, HC1, HB1⟩
  case round =>
    obtain ⟨m, g, c, us, Gs, rfl, rfl, hm, hG, hC, hB⟩ := hrel
    clear HG1 HC1 HB1
    have hsz := hB.out.size
    have hgl := hG.out.lt
    by_cases hlt : 0 < m
    · have b1 : (0 : Int) < m := by omega
      have w1' : IntKind.i64.wrap ((m : Int) - 1) = ((m - 1 : Nat) : Int) := by rw [IntWalk.i64_in _ (by omega)]; omega
      go_wp2_with fail
      refine (HFO.out wr _ (by omega) hC.out).mono ?_
      rintro e w4 ⟨u, f, rfl, hd, hft, hfl, hC4, ho4⟩
      obtain ⟨au, cu, hsh⟩ := hd.shape
      subst hsh
      have hnz := hd.nodesZ
      obtain ⟨F, hF⟩ : ∃ F, f.map upN = F := ⟨_, rfl⟩
      have hfF : f.length = F.length := by rw [← hF, List.length_map]
      rw [hF] at hnz
      rw [hfF] at hnz ⊢
      have hs4 := ho4.size
      have HN4 := Lib.hid hnz
      have HG4 := Lib.hid (hG.out.only ho4 (fun b h1 h2 e => by omega))
      have HC4 := Lib.hid hC4
      have HB4 := Lib.hid (hB.out.trans (ho4.below (base := w.heap.size) hsz (fun g e => by omega)))
      have HR4 := Lib.hid (World.ownsRow.alloc HG4.out.row (.cells #[.slice au F.length cu] 26))
      clear hd hft hfl hC4 ho4 hnz hG hC hB hF
      go_wp2_with (at_builtin; refine wpList_append_own_at _ rfl _ _ 38 rfl (w.heap.size + 1) 26 i0 (.agg #[.slice none 0 0]) 1 24 Try.underlying38 hi0 hz0 hz1 hz2 rfl (by decide) _ _ _ rfl HR4.out ⟨w4.heap.size, 0, none⟩ 1 1 [.slice au F.length cu] rfl rfl (cell_one_new _ _ _) (by simp [Value.oneCell']) (by unfold maxLen; omega) (by omega) (by simp; omega) ?_; intro v7 w7 hown7 hgrow7 hnil7 hat7)
      obtain ⟨g7, c7, rfl, _, _⟩ := hown7.form (by omega)
      obtain ⟨p1, p2⟩ := HG4.out.push HN4.out (by omega) (Nat.le_refl _) (by omega) hown7 hgrow7 hat7
      have HG7 := Lib.hid p1
      have HC7 := Lib.hid ((HC4.out.only p2 (fun x e => by omega) (by omega)).mono (show _ ≤ 2 + 16 * (Gs.length + 1) by omega))
      have HB7 := Lib.hid (HB4.out.trans (p2.below (base := w.heap.size) (by omega) (fun g e => by omega)))
      clear hown7 hgrow7 hnil7 hat7 p1 p2 HG4 HN4 HC4 HB4 HR4
      go_wp2
      go_roundw
      case rel => exact ⟨m - 1, g7, c7, us ++ [.slice au F.length cu], Gs ++ [F], by go_num, by simp, by simp; omega, HG7, by simpa using HC7, HB7⟩
      case measure => simp [intOf]; omega
    · obtain rfl : m = 0 := by omega
      -- TAIL
      go_wp2_with fail
      refine (HON.out wr _ 20 (by omega) (by omega) (by omega) hC.out).mono ?_
      rintro e w2 ⟨⟨yes, rfl⟩, hc2, hg2⟩
      have ho2 := only_cur hg2
      have hs2 := ho2.size
      have HG2 := Lib.hid (hG.out.only ho2 (fun b h1 h2 e => by omega))
      have HC2 := Lib.hid (hc2.mono (show _ ≤ 150 by omega))
      have HB2 := Lib.hid (hB.out.trans (ho2.below (base := w.heap.size) hsz (fun g e => by omega)))
      clear hc2 hg2 ho2 hG hC hB
      cases yes with
      | false =>
        have hlt : Gs.length ≤ 6 := by omega
        have HGt := HG2
        have HCt := Lib.hid (HC2.out.mono (show 150 ≤ 200 by omega))
        have HBt := HB2
        clear HG2 HC2 HB2
        go_wp2_with fail
        refine (HON.out _ 200 20 (by omega) (by omega) (by omega) HCt.out).mono ?_
        rintro e w8 ⟨⟨yes8, rfl⟩, hc8, hg8⟩
        have ho8 := only_cur hg8
        have hs8 := ho8.size
        have hst := HBt.out.size
        have HG8 := Lib.hid (HGt.out.only ho8 (fun b h1 h2 e => by omega))
        have HC8 := Lib.hid hc8
        have HB8 := Lib.hid (HBt.out.trans (ho8.below (base := w.heap.size) (by omega) (fun g e => by omega)))
        clear hc8 hg8 ho8 HGt HCt HBt
        cases yes8 with
        | false =>
          have HF := Lib.hid (HG8.out.formsZ.wide (lo' := w.heap.size) (by omega) (Nat.le_refl _))
          clear HG8 HC8 HPK HON HFO HAN
          go_wp2
          go_ret
          exact ⟨g, c, Gs, rfl, by omega, HF.out, HB8.out⟩
        | true =>
          have hG9 := GzL.new (w.heap.size + 1) w8 (by omega) 26 rfl
          have hb9 : Below w8.heap.size w8 (w8.alloc (.cells #[] 26)) := (Below.refl _ _).alloc (Nat.le_refl _) _
          have HG9 := Lib.hid hG9
          have HC9 := Lib.hid (HC8.out.below hb9)
          have HB9 := Lib.hid (HB8.out.trans (hb9.mono (by omega)))
          clear hG9 hb9 HG8 HC8 HB8
          go_wp2_with fail
          refine (HPK.out _ _ 2 (by omega) (by omega) (by omega) HC9.out).mono ?_
          rintro e w10 ⟨⟨r2, hr2, rfl⟩, hc10, hg10⟩
          have ho10 := only_cur hg10
          have HG10 := Lib.hid (HG9.out.only ho10 (fun b h1 h2 e => by omega))
          have HB10 := Lib.hid (HB9.out.trans (ho10.below (base := w.heap.size) (by simp; omega) (fun g e => by omega)))
          have w24 : IntKind.i64.wrap (24 + (r2 : Int)) = ((24 + r2 : Nat) : Int) := by rw [IntWalk.i64_in _ (by omega)]; omega
          clear hc10 hg10 ho10 HG9 HC9 HB9 HPK HON HFO HAN
          go_wp2
          go_loopw [4, 6] (fun l i wr => ∃ (m g c : Nat) (us : List Value) (Gs : List (List Nz)), i = .int .i64 m ∧ l = .slice (some ⟨g, 0, none⟩) Gs.length c ∧ Gs.length + m = 24 + r2 ∧ Hid (GzL (w.heap.size + 1) wr g c us Gs) ∧ Hid (Below w.heap.size w wr)) (fun _ i _ => (intOf i).toNat)
          case atStart => exact ⟨24 + r2, w8.heap.size, 0, [], [], by go_num, rfl, by simp, HG10, HB10⟩
          case round =>
            obtain ⟨m, g, c, us, Gs, rfl, rfl, hm, hG, hB⟩ := hrel
            clear HG10 HB10
            have hsz := hB.out.size
            have hgl := hG.out.lt
            by_cases hlt : 0 < m
            · have b1 : (0 : Int) < m := by omega
              have w1' : IntKind.i64.wrap ((m : Int) - 1) = ((m - 1 : Nat) : Int) := by rw [IntWalk.i64_in _ (by omega)]; omega
              have hbn : Below wr.heap.size wr (wr.alloc (.cells #[.slice none 0 0, .slice none 0 0] 65)) := (Below.refl _ _).alloc (Nat.le_refl _) _
              have hzn : (wr.alloc (.cells #[.slice none 0 0, .slice none 0 0] 65)).heap.size = wr.heap.size + 1 := by simp
              have HN4 : Hid (NodesZ (wr.alloc (.cells #[.slice none 0 0, .slice none 0 0] 65)) wr.heap.size (wr.heap.size + 1) (.slice (some ⟨wr.heap.size, 0, none⟩) 1 1) [([], [])]) := Lib.hid (by
                refine ⟨_, 1, rfl, ⟨Nat.le_refl _, by simp⟩, fun j nd hj => ?_⟩
                have h0 := get_lt hj
                simp at h0
                subst h0
                simp at hj
                subst hj
                exact ⟨wr.heap.size, 0, .slice none 0 0, .slice none 0 0, rfl, Nat.le_refl _, Nat.lt_succ_self _, by go_simp, by go_simp, ⟨none, 0, rfl, by simp, fun j x hx => by simp at hx⟩, ⟨none, 0, rfl, by simp, fun j x hx => by simp at hx⟩⟩)
              have HG4 := Lib.hid (hG.out.only (Only.of_below (F := fun _ => False) hbn) (fun _ _ _ => id))
              have HB4 := Lib.hid (hB.out.trans (hbn.mono hsz))
              have HR4 := Lib.hid (World.ownsRow.alloc HG4.out.row (.cells #[.slice (some ⟨wr.heap.size, 0, none⟩) 1 1] 26))
              have HCN : Hid (∀ (j : Nat) (v : Value), [Value.slice (some ⟨wr.heap.size, 0, none⟩) 1 1][j]? = some v → ((wr.alloc (.cells #[.slice none 0 0, .slice none 0 0] 65)).alloc (.cells #[.slice (some ⟨wr.heap.size, 0, none⟩) 1 1] 26)).cell? ((⟨wr.heap.size + 1, 0, none⟩ : Addr).add j) = some v) := Lib.hid (by rw [← hzn]; exact cell_one_new _ _ _)
              clear hbn hG hB
              go_wp2_with (at_builtin; refine wpList_append_own_at _ rfl _ _ 38 rfl (w.heap.size + 1) 26 i0 (.agg #[.slice none 0 0]) 1 24 Try.underlying38 hi0 hz0 hz1 hz2 rfl (by decide) _ _ _ rfl HR4.out ⟨wr.heap.size + 1, 0, none⟩ 1 1 [.slice (some ⟨wr.heap.size, 0, none⟩) 1 1] rfl rfl HCN.out (by simp [Value.oneCell']) (by unfold maxLen; omega) (by omega) (by simp; omega) ?_; intro v7 w7 hown7 hgrow7 hnil7 hat7)
              obtain ⟨g7, c7, rfl, _, _⟩ := hown7.form (by omega)
              obtain ⟨p1, p2⟩ := HG4.out.push HN4.out (by omega) (by omega) (by omega) hown7 hgrow7 hat7
              have HG7 := Lib.hid p1
              have HB7 := Lib.hid (HB4.out.trans (p2.below (base := w.heap.size) (by omega) (fun g e => by omega)))
              clear hown7 hgrow7 hnil7 hat7 p1 p2 HG4 HN4 HB4 HR4
              go_wp2
              go_roundw
              case rel => exact ⟨m - 1, g7, c7, us ++ [.slice (some ⟨wr.heap.size, 0, none⟩) 1 1], Gs ++ [[([], [])]], by go_num, by simp, by simp; omega, HG7, HB7⟩
              case measure => simp [intOf]; omega
            · obtain rfl : m = 0 := by omega
              have HF := Lib.hid (hG.out.formsZ.wide (lo' := w.heap.size) (by omega) (Nat.le_refl _))
              clear hG
              go_wp2
              go_ret
              exact ⟨g, c, Gs, rfl, by omega, HF.out, hB.out⟩
      | true =>
        go_wp2_with fail
        refine (HAN.out _ _ (by omega) HC2.out).mono ?_
        rintro e w4 ⟨au, cu, F, rfl, hnz, hfl, hC4, ho4⟩
        have hs4 := ho4.size
        have HN4 := Lib.hid hnz
        have hgl2 := HG2.out.lt
        have HG4 := Lib.hid (HG2.out.only ho4 (fun b h1 h2 e => by omega))
        have HC4 := Lib.hid (hC4.mono (show _ ≤ 200 by omega))
        have HB4 := Lib.hid (HB2.out.trans (ho4.below (base := w.heap.size) (by omega) (fun g e => by omega)))
        have HR4 := Lib.hid (World.ownsRow.alloc HG4.out.row (.cells #[.slice au F.length cu] 26))
        clear hnz hC4 ho4 HG2 HC2 HB2
        go_wp2_with (at_builtin; refine wpList_append_own_at _ rfl _ _ 38 rfl (w.heap.size + 1) 26 i0 (.agg #[.slice none 0 0]) 1 24 Try.underlying38 hi0 hz0 hz1 hz2 rfl (by decide) _ _ _ rfl HR4.out ⟨w4.heap.size, 0, none⟩ 1 1 [.slice au F.length cu] rfl rfl (cell_one_new _ _ _) (by simp [Value.oneCell']) (by unfold maxLen; omega) (by omega) (by simp; omega) ?_; intro v7 w7 hown7 hgrow7 hnil7 hat7)
        obtain ⟨g7, c7, rfl, _, _⟩ := hown7.form (by omega)
        obtain ⟨p1, p2⟩ := HG4.out.push HN4.out (by omega) (Nat.le_refl _) (by omega) hown7 hgrow7 hat7
        have HGt := Lib.hid p1
        have HCt := Lib.hid (HC4.out.only p2 (fun x e => by omega) (by omega))
        have HBt := Lib.hid (HB4.out.trans (p2.below (base := w.heap.size) (by omega) (fun g e => by omega)))
        clear hown7 hgrow7 hnil7 hat7 p1 p2 HG4 HN4 HC4 HB4 HR4
        obtain ⟨Gt, hGt⟩ : ∃ Gt, Gs ++ [F] = Gt := ⟨_, rfl⟩
        have hlen : Gs.length + 1 = Gt.length := by rw [← hGt]; simp
        rw [hGt] at HGt
        rw [hlen]
        clear hGt
        go_wp2_with fail
        refine (HON.out _ 200 20 (by omega) (by omega) (by omega) HCt.out).mono ?_
        rintro e w8 ⟨⟨yes8, rfl⟩, hc8, hg8⟩
        have ho8 := only_cur hg8
        have hs8 := ho8.size
        have hst := HBt.out.size
        have HG8 := Lib.hid (HGt.out.only ho8 (fun b h1 h2 e => by omega))
        have HC8 := Lib.hid hc8
        have HB8 := Lib.hid (HBt.out.trans (ho8.below (base := w.heap.size) (by omega) (fun g e => by omega)))
        clear hc8 hg8 ho8 HGt HCt HBt
        cases yes8 with
        | false =>
          have HF := Lib.hid (HG8.out.formsZ.wide (lo' := w.heap.size) (by omega) (Nat.le_refl _))
          clear HG8 HC8 HPK HON HFO HAN
          go_wp2
          go_ret
          exact ⟨g7, c7, Gt, rfl, by omega, HF.out, HB8.out⟩
        | true =>
          have hG9 := GzL.new (w.heap.size + 1) w8 (by omega) 26 rfl
          have hb9 : Below w8.heap.size w8 (w8.alloc (.cells #[] 26)) := (Below.refl _ _).alloc (Nat.le_refl _) _
          have HG9 := Lib.hid hG9
          have HC9 := Lib.hid (HC8.out.below hb9)
          have HB9 := Lib.hid (HB8.out.trans (hb9.mono (by omega)))
          clear hG9 hb9 HG8 HC8 HB8
          go_wp2_with fail
          refine (HPK.out _ _ 2 (by omega) (by omega) (by omega) HC9.out).mono ?_
          rintro e w10 ⟨⟨r2, hr2, rfl⟩, hc10, hg10⟩
          have ho10 := only_cur hg10
          have HG10 := Lib.hid (HG9.out.only ho10 (fun b h1 h2 e => by omega))
          have HB10 := Lib.hid (HB9.out.trans (ho10.below (base := w.heap.size) (by simp; omega) (fun g e => by omega)))
          have w24 : IntKind.i64.wrap (24 + (r2 : Int)) = ((24 + r2 : Nat) : Int) := by rw [IntWalk.i64_in _ (by omega)]; omega
          clear hc10 hg10 ho10 HG9 HC9 HB9 HPK HON HFO HAN
          go_wp2
          go_loopw [4, 6] (fun l i wr => ∃ (m g c : Nat) (us : List Value) (Gs : List (List Nz)), i = .int .i64 m ∧ l = .slice (some ⟨g, 0, none⟩) Gs.length c ∧ Gs.length + m = 24 + r2 ∧ Hid (GzL (w.heap.size + 1) wr g c us Gs) ∧ Hid (Below w.heap.size w wr)) (fun _ i _ => (intOf i).toNat)
          case atStart => exact ⟨24 + r2, w8.heap.size, 0, [], [], by go_num, rfl, by simp, HG10, HB10⟩
          case round =>
            obtain ⟨m, g, c, us, Gs, rfl, rfl, hm, hG, hB⟩ := hrel
            clear HG10 HB10
            have hsz := hB.out.size
            have hgl := hG.out.lt
            by_cases hlt : 0 < m
            · have b1 : (0 : Int) < m := by omega
              have w1' : IntKind.i64.wrap ((m : Int) - 1) = ((m - 1 : Nat) : Int) := by rw [IntWalk.i64_in _ (by omega)]; omega
              have hbn : Below wr.heap.size wr (wr.alloc (.cells #[.slice none 0 0, .slice none 0 0] 65)) := (Below.refl _ _).alloc (Nat.le_refl _) _
              have hzn : (wr.alloc (.cells #[.slice none 0 0, .slice none 0 0] 65)).heap.size = wr.heap.size + 1 := by simp
              have HN4 : Hid (NodesZ (wr.alloc (.cells #[.slice none 0 0, .slice none 0 0] 65)) wr.heap.size (wr.heap.size + 1) (.slice (some ⟨wr.heap.size, 0, none⟩) 1 1) [([], [])]) := Lib.hid (by
                refine ⟨_, 1, rfl, ⟨Nat.le_refl _, by simp⟩, fun j nd hj => ?_⟩
                have h0 := get_lt hj
                simp at h0
                subst h0
                simp at hj
                subst hj
                exact ⟨wr.heap.size, 0, .slice none 0 0, .slice none 0 0, rfl, Nat.le_refl _, Nat.lt_succ_self _, by go_simp, by go_simp, ⟨none, 0, rfl, by simp, fun j x hx => by simp at hx⟩, ⟨none, 0, rfl, by simp, fun j x hx => by simp at hx⟩⟩)
              have HG4 := Lib.hid (hG.out.only (Only.of_below (F := fun _ => False) hbn) (fun _ _ _ => id))
              have HB4 := Lib.hid (hB.out.trans (hbn.mono hsz))
              have HR4 := Lib.hid (World.ownsRow.alloc HG4.out.row (.cells #[.slice (some ⟨wr.heap.size, 0, none⟩) 1 1] 26))
              have HCN : Hid (∀ (j : Nat) (v : Value), [Value.slice (some ⟨wr.heap.size, 0, none⟩) 1 1][j]? = some v → ((wr.alloc (.cells #[.slice none 0 0, .slice none 0 0] 65)).alloc (.cells #[.slice (some ⟨wr.heap.size, 0, none⟩) 1 1] 26)).cell? ((⟨wr.heap.size + 1, 0, none⟩ : Addr).add j) = some v) := Lib.hid (by rw [← hzn]; exact cell_one_new _ _ _)
              clear hbn hG hB
              go_wp2_with (at_builtin; refine wpList_append_own_at _ rfl _ _ 38 rfl (w.heap.size + 1) 26 i0 (.agg #[.slice none 0 0]) 1 24 Try.underlying38 hi0 hz0 hz1 hz2 rfl (by decide) _ _ _ rfl HR4.out ⟨wr.heap.size + 1, 0, none⟩ 1 1 [.slice (some ⟨wr.heap.size, 0, none⟩) 1 1] rfl rfl HCN.out (by simp [Value.oneCell']) (by unfold maxLen; omega) (by omega) (by simp; omega) ?_; intro v7 w7 hown7 hgrow7 hnil7 hat7)
              obtain ⟨g7, c7, rfl, _, _⟩ := hown7.form (by omega)
              obtain ⟨p1, p2⟩ := HG4.out.push HN4.out (by omega) (by omega) (by omega) hown7 hgrow7 hat7
              have HG7 := Lib.hid p1
              have HB7 := Lib.hid (HB4.out.trans (p2.below (base := w.heap.size) (by omega) (fun g e => by omega)))
              clear hown7 hgrow7 hnil7 hat7 p1 p2 HG4 HN4 HB4 HR4
              go_wp2
              go_roundw
              case rel => exact ⟨m - 1, g7, c7, us ++ [.slice (some ⟨wr.heap.size, 0, none⟩) 1 1], Gs ++ [[([], [])]], by go_num, by simp, by simp; omega, HG7, HB7⟩
              case measure => simp [intOf]; omega
            · obtain rfl : m = 0 := by omega
              have HF := Lib.hid (hG.out.formsZ.wide (lo' := w.heap.size) (by omega) (Nat.le_refl _))
              clear hG
              go_wp2
              go_ret
              exact ⟨g, c, Gs, rfl, by omega, HF.out, hB.out⟩
end

section
open Go.RowKit
set_option linter.unusedVariables false
set_option linter.unusedSimpArgs false

set_option maxHeartbeats 400000 in
theorem vInts_same (v v' : Value) (l : List Int) (w : World) (lo hi lo' hi' : Nat) (h : IntsZ w lo hi v l) (h' : IntsZ w lo' hi' v' l) :
    Calls Try.prog 23 #[v, v'] w fun e w' => e = .returned (.bool true) ∧ ∃ m, w' = w.drewN m := by
  obtain ⟨ao, c, rfl, hl, h3⟩ := h
  obtain ⟨ao', c', rfl, _, h3'⟩ := h'
  have H := Lib.hid h3
  have H' := Lib.hid h3'
  clear h3 h3'
  go_enter Try.func23, Try.ntmps23
  go_wp2
  go_loopw [5] (fun i wr => ∃ k : Nat, k ≤ l.length ∧ i = .int .i64 k ∧ ∃ m, wr = w.drewN m) (fun i _ => l.length - (intOf i).toNat)
  case atStart => exact ⟨0, Nat.zero_le _, rfl, 0, rfl⟩
  case round =>
    obtain ⟨k, hk, rfl, m, rfl⟩ := hrel
    by_cases hlt : k < l.length
    · obtain ⟨x, hx⟩ : ∃ x, l[k]? = some x := ⟨l[k], List.getElem?_eq_getElem hlt⟩
      obtain ⟨b, off, rfl, _, _, c1⟩ := H.out k x hx
      obtain ⟨b', off', rfl, _, _, c2⟩ := H'.out k x hx
      clear hx
      have b0 : (0 : Int) ≤ k := by omega
      have b1 : (k : Int) < l.length := by omega
      go_wp2
      go_quiet (fail)
      go_wp2
      go_roundw
      case rel => exact ⟨k + 1, by omega, by go_num, _, rfl⟩
      case measure => simp [intOf]; omega
    · go_wp2
      go_ret
      exact ⟨rfl, _, rfl⟩
end

end Go.Proofs.Ytiacgcpcgabdoaa
