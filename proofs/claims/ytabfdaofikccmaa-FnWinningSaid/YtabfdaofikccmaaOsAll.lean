/- The model's l4Wins and l4First. -/
import Derived.Test.YtabfdaofikccmaaOrAll
import Derived.Test.YtabfdaofikccmaaFmReach
import Derived.Test.YtabfdaofikccmaaFmAdd
import Derived.Deep.Onto
import Derived.Test.YtabfdaofikccmaaSqAll
namespace Go.Proofs.Ytabfdaofikccmaa
section
open Go.RowKit
set_option linter.unusedVariables false
set_option linter.unusedSimpArgs false
/-- a row of signs that grows -/
def RowW (base : Nat) (g n c : Nat) (T : List Bool) (w : World) : Prop := w.ownsRow base 4 1 (.slice (some ⟨g, 0, none⟩) n c) n (T.map Value.bool)
theorem RowW.at_ {base g n c x : Nat} {v : Bool} {T : List Bool} {w : World} (h : RowW base g n c T w) (hx : T[x]? = some v) : w.cell? ⟨g, x, none⟩ = some (.bool v) := by
  have hl : (T.map Value.bool).length = n * 1 := h.1
  have hlt := get_lt hx
  rw [List.length_map] at hl
  rw [World.ownsRow.cellAt h x (by omega), List.getElem?_map, hx]
  rfl
theorem own_eq {g q n c : Nat} (e : (Value.slice (some ⟨g, 0, none⟩) n c).ownBlock = some q) : g = q := by injection e
theorem far_eq {g q n c o : Nat} (e : some (⟨q, o, none⟩ : Addr).block = (Value.slice (some ⟨g, 0, none⟩) n c).ownBlock) : q = g := by injection e
theorem nodes_at' {w : World} {lo hi n c0 : Nat} {ao : Option Addr} {A : List Nd} (h : NodesZ w lo hi (.slice ao n c0) (A.map upN)) {i : Nat} {nd : Nd} (hi' : A[i]? = some nd) :
    ∃ b off c v1 v2, Value.slice ao n c0 = .slice (some ⟨b, off, none⟩) A.length c ∧ b < hi ∧ w.cell? ⟨b, off + i * 2, none⟩ = some v1 ∧ w.cell? ⟨b, off + i * 2 + 1, none⟩ = some v2 ∧ IntsZ w lo hi v1 (upL nd.1) ∧ IntsZ w lo hi v2 (upL nd.2) := nodes_at h hi'
theorem ints_len' {w : World} {lo hi : Nat} {v : Value} {l : List Nat} (h : IntsZ w lo hi v (upL l)) : ∃ ao c, v = .slice ao l.length c ∧ (l.length ≤ c ∧ c ≤ 9223372036854775807) := by
  obtain ⟨ao, c, rfl, h2, _⟩ := h
  have : (upL l).length = l.length := by unfold upL; simp
  rw [this] at h2 ⊢
  exact ⟨ao, c, rfl, h2⟩
theorem ints_at' {w : World} {lo hi : Nat} {ao : Option Addr} {n c : Nat} {l : List Nat} (h : IntsZ w lo hi (.slice ao n c) (upL l)) {k x : Nat} (hx : l[k]? = some x) : ∃ b off, ao = some ⟨b, off, none⟩ ∧ b < hi ∧ w.cell? ⟨b, off + k, none⟩ = some (.int .i64 (x : Int)) := by
  obtain ⟨ao', c', e, _, h3⟩ := h
  injection e with e1 _ _
  subst e1
  obtain ⟨b, off, e, _, hb, hc⟩ := h3 k (x : Int) (by unfold upL; rw [List.getElem?_map, hx]; rfl)
  exact ⟨b, off, e, hb, hc⟩
theorem winsF_take (f : List Nd) (k : Nat) (nd : Nd) (h : f[k]? = some nd) : winsF (f.take (k + 1)) = ((winsF (f.take k)).1 ++ [nd.1.any (fun x => !(winsF (f.take k)).2.getD x false)], (winsF (f.take k)).2 ++ [nd.2.any (fun x => !(winsF (f.take k)).1.getD x false)]) := by
  rw [List.take_succ_eq_append_getElem (get_lt h)]
  rw [List.getElem?_eq_getElem (get_lt h)] at h
  injection h with h
  rw [h, winsF_snoc]
theorem any_take_snoc {α : Type} (l : List α) (p : α → Bool) (k : Nat) (x : α) (hx : l[k]? = some x) : (l.take (k + 1)).any p = ((l.take k).any p || p x) := by
  rw [List.take_add_one, hx, List.any_append]
  simp
theorem RowW.len {base g n c : Nat} {T : List Bool} {w : World} (h : RowW base g n c T w) : T.length = n := by
  have hl : (T.map Value.bool).length = n * 1 := h.1
  simpa using hl
theorem RowW.lt {base g n c : Nat} {T : List Bool} {w : World} (h : RowW base g n c T w) : base ≤ g ∧ g < w.heap.size := World.ownsRow.lt h g rfl
set_option maxRecDepth 100000 in
set_option maxHeartbeats 4000000 in
theorem l4Wins_calls (v : Value) (f : List Nd) (w : World) (lo hi : Nat) (hh : hi ≤ w.heap.size) (hv : NodesZ w lo hi v (f.map upN)) (hu : Under f) (hl : f.length ≤ 1000) :
    Calls Try.prog 42 #[.agg #[v]] w fun e w' => ∃ g1 c1 g2 c2, e = .returned (.tuple #[.slice (some ⟨g1, 0, none⟩) f.length c1, .slice (some ⟨g2, 0, none⟩) f.length c2]) ∧
      RowW w.heap.size g1 f.length c1 (winsF f).1 w' ∧ RowW w.heap.size g2 f.length c2 (winsF f).2 w' ∧ Below w.heap.size w w' := by
  obtain ⟨i0, hi0, hz0, hz1, hz2⟩ := info_parts infoBool
  have HV := Lib.hid hv
  have HU := Lib.hid hu
  obtain ⟨ao, c0, rfl, hlm, hnn⟩ := hv
  have hlu : (f.map upN).length = f.length := by simp
  rw [hlu] at HV hlm ⊢
  clear hu hlu hnn
  have HB0 : Hid (Below w.heap.size w (((w.alloc (.cells #[.slice ao f.length c0] 28)).alloc (.cells #[] 4)).alloc (.cells #[] 4))) := Lib.hid ((((Below.refl _ _).alloc (Nat.le_refl _) _).alloc (by simp) _).alloc (by simp; omega) _)
  have hd0 : (((w.alloc (.cells #[.slice ao f.length c0] 28)).alloc (.cells #[] 4)).alloc (.cells #[] 4)).cell? ⟨w.heap.size, 0, none⟩ = some (.slice ao f.length c0) := by go_simp
  have HR0 : Hid (RowW (w.heap.size + 1) (w.heap.size + 1) 0 0 [] (((w.alloc (.cells #[.slice ao f.length c0] 28)).alloc (.cells #[] 4)).alloc (.cells #[] 4))) := Lib.hid (by
    have h := World.ownsRow_lit (base := w.heap.size + 1) (e := 4) (size := 1) (w.alloc (.cells #[.slice ao f.length c0] 28)) #[] 0 (by simp) (by unfold maxLen; omega) rfl
    rw [show (w.alloc (.cells #[.slice ao f.length c0] 28)).heap.size = w.heap.size + 1 from by simp] at h
    exact World.ownsRow.alloc h _)
  have HR1 : Hid (RowW (w.heap.size + 1) (w.heap.size + 1 + 1) 0 0 [] (((w.alloc (.cells #[.slice ao f.length c0] 28)).alloc (.cells #[] 4)).alloc (.cells #[] 4))) := Lib.hid (by
    have h := World.ownsRow_lit (base := w.heap.size + 1) (e := 4) (size := 1) ((w.alloc (.cells #[.slice ao f.length c0] 28)).alloc (.cells #[] 4)) #[] 0 (by simp) (by unfold maxLen; omega) rfl
    rw [show ((w.alloc (.cells #[.slice ao f.length c0] 28)).alloc (.cells #[] 4)).heap.size = w.heap.size + 1 + 1 from by simp] at h
    exact h)
  go_enter Try.func42, Try.ntmps42
  go_wp2
  go_loopw [4, 5, 6] (fun q1 q2 i wr => ∃ (k g1 c1 g2 c2 : Nat) (T1 T2 : List Bool), k ≤ f.length ∧ i = .int .i64 k ∧ q1 = .slice (some ⟨g1, 0, none⟩) k c1 ∧ q2 = .slice (some ⟨g2, 0, none⟩) k c2 ∧ Hid (winsF (f.take k) = (T1, T2)) ∧ g1 ≠ g2 ∧ Hid (RowW (w.heap.size + 1) g1 k c1 T1 wr) ∧ Hid (RowW (w.heap.size + 1) g2 k c2 T2 wr) ∧ Hid (Below w.heap.size w wr) ∧ wr.cell? ⟨w.heap.size, 0, none⟩ = some (.slice ao f.length c0)) (fun _ _ i _ => f.length - (intOf i).toNat)
  case atStart => exact ⟨0, w.heap.size + 1, 0, w.heap.size + 1 + 1, 0, [], [], Nat.zero_le _, rfl, rfl, rfl, Lib.hid rfl, by omega, HR0, HR1, HB0, hd0⟩
  case round =>
    obtain ⟨k, g1, c1, g2, c2, T1, T2, hk, rfl, rfl, rfl, hT, hne, hR1, hR2, hb, hd⟩ := hrel
    clear hd0 HB0 HR0 HR1
    have l1 := hR1.out.len
    have l2 := hR2.out.len
    have b1 := hR1.out.lt
    have b2 := hR2.out.lt
    have hwz := hb.out.size
    by_cases hlt : k < f.length
    · obtain ⟨nd, hx⟩ := lt_get hlt
      obtain ⟨b, off, cc, v1, v2, e1, hbh, p1, p2, i1, i2⟩ := nodes_at' (HV.out.below hb.out hh) hx
      obtain ⟨q1, _, q2⟩ := slice_inj e1
      subst q1 q2
      clear e1
      have hun := HU.out k nd hx
      have HN := Lib.hid (winsF_take f k nd hx)
      rw [hT.out] at HN
      obtain ⟨a1, d1, rfl, hd1⟩ := ints_len' i1
      obtain ⟨a2, d2, rfl, hd2⟩ := ints_len' i2
      have k0 : (0 : Int) ≤ k := by omega
      have k1 : (k : Int) < f.length := by omega
      obtain ⟨W1, hW1⟩ : ∃ W, W = wr := ⟨_, rfl⟩
      subst hW1
      have HI1 := Lib.hid i1
      have HI2 := Lib.hid i2
      have HL1 := Lib.hid l1
      have HL2 := Lib.hid l2
      clear i1 i2 hx hT l1 l2
      go_wp2
      go_loop [7, 9] (fun q i => ∃ j : Nat, j ≤ nd.1.length ∧ i = .int .i64 j ∧ q = .bool ((nd.1.take j).any (fun x => !T2.getD x false))) (fun _ i => nd.1.length - (intOf i).toNat)
      case atStart => exact ⟨0, Nat.zero_le _, rfl, rfl⟩
      case round =>
        obtain ⟨j, hj, rfl, rfl⟩ := hrel
        by_cases hjl : j < nd.1.length
        · obtain ⟨x, hxx⟩ := lt_get hjl
          have hxk : x < k := hun x (Or.inl (List.mem_of_getElem? hxx))
          obtain ⟨rv, hrv⟩ := lt_get (l := T2) (i := x) (by rw [HL2.out]; exact hxk)
          have cr := hR2.out.at_ hrv
          have HS := Lib.hid (any_take_snoc nd.1 (fun x => !T2.getD x false) j x hxx)
          have hgd : T2.getD x false = rv := by rw [List.getD_eq_getElem?_getD, hrv]; rfl
          rw [hgd] at HS
          obtain ⟨b', off', rfl, hbb, hcell⟩ := ints_at' HI1.out hxx
          have x0 : (0 : Int) ≤ x := by omega
          have x1 : (x : Int) < k := by omega
          have j0 : (0 : Int) ≤ j := by omega
          have j1 : (j : Int) < nd.1.length := by omega
          clear hgd hrv hxx
          generalize (nd.1.take j).any (fun x => !T2.getD x false) = B0 at HS ⊢
          cases B0 <;>
          · go_wp2
            go_round
            case rel => exact ⟨j + 1, by omega, by go_num, by rw [HS.out]; first | rfl | simp⟩
            case measure => simp [intOf]; omega
        · have hje : nd.1.take j = nd.1 := List.take_of_length_le (by omega)
          rw [hje]
          clear hje
          obtain ⟨BL, hBL⟩ : ∃ b, nd.1.any (fun x => !T2.getD x false) = b := ⟨_, rfl⟩
          rw [hBL] at HN ⊢
          clear hBL
          go_wp2
          go_loop [8, 10] (fun q i => ∃ j : Nat, j ≤ nd.2.length ∧ i = .int .i64 j ∧ q = .bool ((nd.2.take j).any (fun x => !T1.getD x false))) (fun _ i => nd.2.length - (intOf i).toNat)
          case atStart => exact ⟨0, Nat.zero_le _, rfl, rfl⟩
          case round =>
            obtain ⟨j, hj, rfl, rfl⟩ := hrel
            by_cases hjl : j < nd.2.length
            · obtain ⟨x, hxx⟩ := lt_get hjl
              have hxk : x < k := hun x (Or.inr (List.mem_of_getElem? hxx))
              obtain ⟨rv, hrv⟩ := lt_get (l := T1) (i := x) (by rw [HL1.out]; exact hxk)
              have cr := hR1.out.at_ hrv
              have HS := Lib.hid (any_take_snoc nd.2 (fun x => !T1.getD x false) j x hxx)
              have hgd : T1.getD x false = rv := by rw [List.getD_eq_getElem?_getD, hrv]; rfl
              rw [hgd] at HS
              obtain ⟨b', off', rfl, hbb, hcell⟩ := ints_at' HI2.out hxx
              have x0 : (0 : Int) ≤ x := by omega
              have x1 : (x : Int) < k := by omega
              have j0 : (0 : Int) ≤ j := by omega
              have j1 : (j : Int) < nd.2.length := by omega
              clear hgd hrv hxx
              generalize (nd.2.take j).any (fun x => !T1.getD x false) = B0 at HS ⊢
              cases B0 <;>
              · go_wp2
                go_round
                case rel => exact ⟨j + 1, by omega, by go_num, by rw [HS.out]; first | rfl | simp⟩
                case measure => simp [intOf]; omega
            · have hje : nd.2.take j = nd.2 := List.take_of_length_le (by omega)
              rw [hje]
              clear hje
              obtain ⟨BR, hBR⟩ : ∃ b, nd.2.any (fun x => !T1.getD x false) = b := ⟨_, rfl⟩
              rw [hBR] at HN ⊢
              clear hBR HI1 HI2 hun
              go_wp2_with (at_builtin; refine wpList_append_own_at _ rfl _ _ 67 rfl (w.heap.size + 1) 4 i0 (.bool false) 1 1 Try.underlying67 hi0 hz0 hz1 hz2 rfl (by decide) _ _ _ rfl (World.ownsRow.alloc hR1.out _) ⟨W1.heap.size, 0, none⟩ 1 1 [.bool BL] rfl rfl ?c1 ?c2 ?c3 ?c4 ?c5 ?_)
              case c2 => first | rfl | (intro u hu; simp at hu; subst hu; rfl)
              case c3 => unfold maxLen; omega
              case c4 => omega
              intro v6 w6 hown6 hgrow6 hnil6 hat6
              obtain ⟨g6, c6, rfl, _, _⟩ := hown6.form (by omega)
              have hzA : (W1.alloc (.cells #[.bool BL] 4)).heap.size = W1.heap.size + 1 := by simp
              have hne6 : g6 ≠ g2 := by
                rcases hat6 with e | e
                · have e2 : g6 = g1 := own_eq e
                  omega
                · skip
                  have e2 : g6 = W1.heap.size + 1 := own_eq e
                  omega
              have R1 : Hid (RowW (w.heap.size + 1) g6 (k + 1) c6 (T1 ++ [BL]) w6) := Lib.hid (by unfold RowW; rw [List.map_append]; exact hown6)
              have R2 : Hid (RowW (w.heap.size + 1) g2 k c2 T2 w6) := Lib.hid (own_only (World.ownsRow.alloc hR2.out _) (Only.of_grown (F := fun g => g = g1) hgrow6 (fun g e => (own_eq e).symm)) (fun g e e3 => by have e2 := own_eq e; omega))
              have HB6 : Hid (Below w.heap.size w w6) := Lib.hid ((hb.out.alloc hb.out.size _).grown hgrow6 (by rw [hzA]; omega) (fun q hq => by have e2 := own_eq hq; omega))
              have hd6 : w6.cell? ⟨w.heap.size, 0, none⟩ = some (.slice (some ⟨b, off, none⟩) f.length c0) := (hgrow6.cell_far ⟨w.heap.size, 0, none⟩ (by rw [hzA]; show w.heap.size < _; omega) (fun e => absurd (far_eq e) (by omega))).trans ((bcell ((Below.refl _ _).alloc (Nat.le_refl _) _) _ _ (block_of_cell hd)).trans hd)
              have hs6 : W1.heap.size + 1 ≤ w6.heap.size := by have := hgrow6.size; rw [hzA] at this; exact this
              have l6 := R1.out.lt
              have l62 := R2.out.lt
              clear hown6 hgrow6 hnil6 hat6 hR1 hR2 hb hd hzA p1 p2
              go_wp2_with (at_builtin; refine wpList_append_own_at _ rfl _ _ 67 rfl (w.heap.size + 1) 4 i0 (.bool false) 1 1 Try.underlying67 hi0 hz0 hz1 hz2 rfl (by decide) _ _ _ rfl (World.ownsRow.alloc R2.out _) ⟨w6.heap.size, 0, none⟩ 1 1 [.bool BR] rfl rfl ?e1 ?e2 ?e3 ?e4 ?e5 ?_)
              case e1 => exact World.news_of_block (heap_alloc_new _ _)
              case e2 => first | rfl | (intro u hu; simp at hu; subst hu; rfl)
              case e3 => unfold maxLen; omega
              case e4 => omega
              case e5 => simp; omega
              intro v7 w7 hown7 hgrow7 hnil7 hat7
              obtain ⟨g7, c7, rfl, _, _⟩ := hown7.form (by omega)
              have hzA : (w6.alloc (.cells #[.bool BR] 4)).heap.size = w6.heap.size + 1 := by simp
              have hne7 : g6 ≠ g7 := by
                rcases hat7 with e | e
                · have e2 : g7 = g2 := own_eq e
                  omega
                · skip
                  have e2 : g7 = w6.heap.size + 1 := own_eq e
                  omega
              have Q2 : Hid (RowW (w.heap.size + 1) g7 (k + 1) c7 (T2 ++ [BR]) w7) := Lib.hid (by unfold RowW; rw [List.map_append]; exact hown7)
              have Q1 : Hid (RowW (w.heap.size + 1) g6 (k + 1) c6 (T1 ++ [BL]) w7) := Lib.hid (own_only (World.ownsRow.alloc R1.out _) (Only.of_grown (F := fun g => g = g2) hgrow7 (fun g e => (own_eq e).symm)) (fun g e e3 => by have e2 := own_eq e; omega))
              have HB7 : Hid (Below w.heap.size w w7) := Lib.hid ((HB6.out.alloc HB6.out.size _).grown hgrow7 (by rw [hzA]; omega) (fun q hq => by have e2 := own_eq hq; omega))
              have hd7 : w7.cell? ⟨w.heap.size, 0, none⟩ = some (.slice (some ⟨b, off, none⟩) f.length c0) := (hgrow7.cell_far ⟨w.heap.size, 0, none⟩ (by rw [hzA]; show w.heap.size < _; omega) (fun e => absurd (far_eq e) (by omega))).trans ((bcell ((Below.refl _ _).alloc (Nat.le_refl _) _) _ _ (block_of_cell hd6)).trans hd6)
              clear hown7 hgrow7 hnil7 hat7 R1 R2 HB6 hd6 hzA
              go_wp2
              go_roundw
              case rel => exact ⟨k + 1, g6, c6, g7, c7, _, _, by omega, by go_num, rfl, rfl, HN, hne7, Q1, Q2, HB7, hd7⟩
              case measure => simp [intOf]; omega
    · have hke : k = f.length := by omega
      subst hke
      rw [List.take_length] at hT
      have bn : ¬ (f.length : Int) < f.length := by omega
      have Q1 : Hid (RowW w.heap.size g1 f.length c1 (winsF f).1 wr) := Lib.hid (by rw [hT.out]; exact World.ownsRow.mono hR1.out (by omega))
      have Q2 : Hid (RowW w.heap.size g2 f.length c2 (winsF f).2 wr) := Lib.hid (by rw [hT.out]; exact World.ownsRow.mono hR2.out (by omega))
      clear hR1 hR2 hT
      go_wp2
      exact bodyPost_ret (v := .tuple #[.slice (some ⟨g1, 0, none⟩) f.length c1, .slice (some ⟨g2, 0, none⟩) f.length c2]) (by simp [results, Try.results42, go_sem]) rfl ⟨g1, c1, g2, c2, rfl, Q1.out, Q2.out, hb.out⟩
end

section
open Go.RowKit
set_option linter.unusedVariables false
set_option linter.unusedSimpArgs false
theorem winsF_at (f : List Nd) (hu : Under f) (o : Nat) (h : o < f.length) : (winsF f).1[o]? = some (soloF f o true) ∧ (winsF f).2[o]? = some (soloF f o false) := by
  have h' := winsF_is f hu f.length (Nat.le_refl _)
  rw [List.take_length] at h'
  obtain ⟨h1, h2, h3⟩ := h'
  obtain ⟨e1, e2⟩ := h3 o h
  rw [List.getD_eq_getElem?_getD] at e1 e2
  obtain ⟨x, hx⟩ := lt_get (l := (winsF f).1) (i := o) (by omega)
  obtain ⟨y, hy⟩ := lt_get (l := (winsF f).2) (i := o) (by omega)
  rw [hx] at e1
  rw [hy] at e2
  exact ⟨by rw [hx, ← e1]; rfl, by rw [hy, ← e2]; rfl⟩
set_option maxRecDepth 100000 in
set_option maxHeartbeats 4000000 in
theorem winningS_calls (va : Value) (f : List Nz) (l ok : Bool) (ms : List Int) (hok : Hid (goodB f = ok)) (hm : Hid (movesV f l = ms)) (w : World) (lo hi : Nat) (hh : hi ≤ w.heap.size) (hva : NodesZ w lo hi va f) :
    Calls Try.prog 15 #[.agg #[va], .bool l] w fun e w' => ∃ v, e = .returned (.tuple #[v, .bool ok]) ∧ OwnI w' w.heap.size v ms ∧ Below w.heap.size w w' := by
  obtain ⟨i0, hi0, hz0, hz1, hz2⟩ := info_parts infoIntA
  have HB0 : Hid (Below w.heap.size w ((w.alloc (.cells #[va] 28)).alloc (.cells #[] 3))) := Lib.hid (((Below.refl _ _).alloc (Nat.le_refl _) _).alloc (by simp) _)
  have HE0 : Hid (OwnI ((w.alloc (.cells #[va] 28)).alloc (.cells #[] 3)) w.heap.size (.slice (some ⟨w.heap.size + 1, 0, none⟩) 0 0) []) := Lib.hid (by
    have h := World.ownsRow_lit (base := w.heap.size) (e := 3) (size := 1) (w.alloc (.cells #[va] 28)) #[] 0 (by simp) (by unfold maxLen; omega) rfl
    rw [show (w.alloc (.cells #[va] 28)).heap.size = w.heap.size + 1 from by simp] at h
    exact h)
  have HVA := Lib.hid fun (W : World) (hW : Below w.heap.size w W) => hva.below hW hh
  have CG := Lib.hid fun (W : World) (hW : Below w.heap.size w W) => goodS_res va f ok hok W lo hi (Nat.le_trans hh hW.size) (hva.below hW hh)
  clear hva
  go_enter Try.func15, Try.ntmps15
  go_wp2_with fail
  refine (CG.out _ HB0.out).mono ?_
  rintro e w4 ⟨rfl, hb4⟩
  have k0 : w4.cell? ⟨w.heap.size, 0, none⟩ = some va := (bcell hb4 _ _ (by simp; omega)).trans (by go_simp)
  have HO4 : Hid (OwnI w4 w.heap.size (.slice (some ⟨w.heap.size + 1, 0, none⟩) 0 0) []) := Lib.hid (HE0.out.below hb4)
  have HB4 := Lib.hid (Below.trans HB0.out (hb4.mono (by simp; omega)))
  have hz4 := hb4.size
  (try simp at hz4)
  clear hb4 CG HB0 HE0
  cases ok with
  | false =>
    obtain rfl : ms = [] := by rw [← hm.out]; unfold movesV; rw [hok.out]; rfl
    go_wp2_with fail
    exact bodyPost_ret (v := .tuple #[.slice (some ⟨w.heap.size + 1, 0, none⟩) 0 0, .bool false]) (by simp [results, Try.results15, go_sem]) rfl ⟨_, rfl, HO4.out, HB4.out⟩
  | true =>
    have hg := hok.out
    obtain ⟨hf1, hf2, _⟩ := (goodB_iff f).1 hg
    have e1 : (f.map downN).length = f.length := by simp
    have h0 := hf1.1
    have h120 := hf1.2.1
    have HM : Hid (movesK (f.map downN) (optsD (f.map downN) (f.length - 1) l) l (optsD (f.map downN) (f.length - 1) l).length = ms) := Lib.hid (by rw [← movesV_good hg]; exact hm.out)
    have HWF := Lib.hid (fun o (ho : o < f.length) => winsF_at (f.map downN) hf2.up.2.under o (by rw [e1]; exact ho))
    have HLT := Lib.hid (fun (l : Bool) o (ho : o ∈ optsD (f.map downN) (f.length - 1) l) => show o < f.length from by have := optsD_lt hf2.up.2.under ho; omega)
    have C := Lib.hid fun (W : World) (hW : Below w.heap.size w W) => l4Wins_calls va (f.map downN) W lo hi (Nat.le_trans hh hW.size) (by rw [hf2.up.1]; exact HVA.out W hW) hf2.up.2.under (by rw [e1]; omega)
    rw [e1] at C
    have HL := Lib.hid fun (W : World) (hW : Below w.heap.size w W) => last_at (HVA.out W hW) hg
    have hn1 : IntKind.i64.wrap ((f.length : Int) - 1) = ((f.length - 1 : Nat) : Int) := by rw [IntWalk.i64_in _ (by omega)]; omega
    have hn2 : ((f.length - 1 : Nat) : Int) < f.length := by omega
    have l0 := block_of_cell k0
    clear hok hm hg hf1 hf2 e1
    go_wp2_with fail
    refine (C.out _ HB4.out).mono ?_
    rintro e w5 ⟨g1, c1, g2, c2, rfl, hr1, hr2, hb5⟩
    have k0 := (bcell hb5 _ _ l0).trans k0
    have HO5 := Lib.hid (HO4.out.below hb5)
    have HB5 := Lib.hid (HB4.out.trans (hb5.mono HB4.out.size))
    have hz5 := hb5.size
    have b1 := hr1.lt
    have b2 := hr2.lt
    have HR1 := Lib.hid hr1
    have HR2 := Lib.hid hr2
    obtain ⟨b, off, cc, v1, v2, n1, n2, rfl, hbh, p1, p2, i1, i2, q1, q2, z1, z2⟩ := HL.out w5 HB5.out
    obtain ⟨a1, d1, rfl, hd1⟩ := ints_len i1
    obtain ⟨a2, d2, rfl, hd2⟩ := ints_len i2
    have HI1 := Lib.hid i1
    have HI2 := Lib.hid i2
    have HQ1 := Lib.hid q1
    have HQ2 := Lib.hid q2
    clear hb5 hr1 hr2 C HL HO4 HB4 i1 i2 q1 q2 HVA
    have c6a : (w5.alloc (.cells #[.slice a1 n1.length d1, .slice a2 n2.length d2] 57)).cell? ⟨w5.heap.size, 0, none⟩ = some (.slice a1 n1.length d1) := by go_simp
    have c6b : (w5.alloc (.cells #[.slice a1 n1.length d1, .slice a2 n2.length d2] 57)).cell? ⟨w5.heap.size, 1, none⟩ = some (.slice a2 n2.length d2) := by go_simp
    have hb6 : Below w5.heap.size w5 (w5.alloc (.cells #[.slice a1 n1.length d1, .slice a2 n2.length d2] 57)) := (Below.refl _ _).alloc (Nat.le_refl _) _
    have hs6 : w5.heap.size < (w5.alloc (.cells #[.slice a1 n1.length d1, .slice a2 n2.length d2] 57)).heap.size := by simp
    have HO6 := Lib.hid (HO5.out.below hb6)
    have HR61 := Lib.hid (own_only HR1.out (Only.of_below (F := fun _ => False) hb6) (fun _ _ => id))
    have HR62 := Lib.hid (own_only HR2.out (Only.of_below (F := fun _ => False) hb6) (fun _ _ => id))
    have hhi5 : hi ≤ w5.heap.size := Nat.le_trans hh HB5.out.size
    have HI61 := Lib.hid (HI1.out.below hb6 hhi5)
    have HI62 := Lib.hid (HI2.out.below hb6 hhi5)
    have HB6 := Lib.hid (HB5.out.trans (hb6.mono HB5.out.size))
    have HOW : Hid (∀ q, (Value.slice (some ⟨w.heap.size + 1, 0, none⟩) 0 0).ownBlock = some q → q = w.heap.size + 1 ∨ w5.heap.size < q) := Lib.hid (fun q e => Or.inl (own_eqv e).symm)
    clear HO5 HR1 HR2 HI1 HI2 HB5 hb6
    cases l with
    | true =>
      rw [HQ1.out] at HM
      have HLO := Lib.hid (fun o (ho : o ∈ n1) => HLT.out true o (by rw [HQ1.out]; exact ho))
      clear HLT
      go_wp2
      generalize w5.alloc (.cells #[.slice a1 n1.length d1, .slice a2 n2.length d2] 57) = W6 at c6a c6b hs6 HO6 HR61 HR62 HI61 HI62 HB6 ⊢
      go_loopw [6, 10] (fun q i wr => ∃ k : Nat, k ≤ n1.length ∧ i = .int .i64 k ∧ Hid (OwnI wr w.heap.size q (movesK (f.map downN) n1 true k)) ∧ Hid (RowW w4.heap.size g2 f.length c2 (winsF (List.map downN f)).2 wr) ∧ Hid (IntsZ wr lo hi (.slice a1 n1.length d1) (upL n1)) ∧ Hid (Below w.heap.size w wr) ∧ wr.cell? ⟨w5.heap.size, 0, none⟩ = some (.slice a1 n1.length d1) ∧ Hid (∀ g, q.ownBlock = some g → g = w.heap.size + 1 ∨ w5.heap.size < g) ∧ w5.heap.size < wr.heap.size) (fun _ i _ => n1.length - (intOf i).toNat)
      case atStart => exact ⟨0, Nat.zero_le _, rfl, HO6, HR62, HI61, HB6, c6a, HOW, hs6⟩
      case round =>
        obtain ⟨k, hk, rfl, hown, hrow, hio, hbw, hc, how, hsz⟩ := hrel
        clear HO6 HR61 HR62 HI61 HI62 HB6 HOW c6a c6b hs6
        by_cases hlt : k < n1.length
        · obtain ⟨o, ho⟩ := lt_get hlt
          have hoi := HLO.out o (List.mem_of_getElem? ho)
          obtain ⟨b', off', rfl, hbb, hcell⟩ := ints_at hio.out ho
          obtain ⟨r, hr⟩ : ∃ r, soloF (f.map downN) o (!true) = r := ⟨_, rfl⟩
          have HS := Lib.hid (movesK_succ (f.map downN) n1 true k o r ho hr)
          have cr := hrow.out.at_ ((HWF.out o hoi).2.trans (congrArg some hr))
          have b0 : (0 : Int) ≤ k := by omega
          have b1' : (k : Int) < n1.length := by omega
          have o0 : (0 : Int) ≤ o := by omega
          have o1 : (o : Int) < f.length := by omega
          clear ho hr
          cases r with
          | true =>
            have HS2 : Hid (movesK (f.map downN) n1 true (k + 1) = movesK (f.map downN) n1 true k) := Lib.hid (by rw [HS.out]; simp)
            clear HS
            rw [← HS2.out] at hown
            go_wp2
            go_round
            case rel => exact ⟨k + 1, by omega, by go_num, hown, hrow, hio, hbw, hc, how, hsz⟩
            case measure => simp [intOf]; omega
          | false =>
            have HS2 : Hid (movesK (f.map downN) n1 true (k + 1) = movesK (f.map downN) n1 true k ++ [(k : Int)]) := Lib.hid (by rw [HS.out]; simp)
            have hml := movesK_len (f.map downN) n1 true k
            have hwz := hbw.out.size
            clear HS
            go_wp2_with (at_builtin; refine wpList_append_own_at _ rfl _ _ 34 rfl w.heap.size 3 i0 (.int .i64 0) 1 8 Try.underlying34 hi0 hz0 hz1 hz2 rfl (by decide) _ _ _ rfl (World.ownsRow.alloc hown.out _) ⟨wr.heap.size, 0, none⟩ 1 1 [.int .i64 (k : Int)] rfl rfl ?e1 ?e2 ?e3 ?e4 ?e5 ?_)
            case e1 => exact World.news_of_block (heap_alloc_new _ _)
            case e2 => first | rfl | (intro u hu; simp at hu; subst hu; rfl)
            case e3 => unfold maxLen; omega
            case e4 => omega
            case e5 => simp; omega
            intro v6 w6 hown6 hgrow6 hnil6 hat6
            have O6 : Hid (OwnI w6 w.heap.size v6 (movesK (f.map downN) n1 true (k + 1))) := Lib.hid (by rw [HS2.out]; unfold OwnI; rw [List.map_append, List.length_append]; exact hown6)
            have hfar : Only wr w6 (fun b => u6.ownBlock = some b) := (Only.of_below (F := fun b => u6.ownBlock = some b) ((Below.refl _ _).alloc (Nat.le_refl _) _)).trans (Only.of_grown (F := fun b => u6.ownBlock = some b) hgrow6 (fun g e => e)) (fun _ _ h => h)
            have R6 : Hid (RowW w4.heap.size g2 f.length c2 (winsF (List.map downN f)).2 w6) := Lib.hid (own_only hrow.out hfar (fun g e h => by have e2 := own_eqv e; have := how.out g h; omega))
            have hb6 : Below w.heap.size wr w6 := hfar.below hwz (fun g h => (hown.out.lt g h).1)
            have I6 := Lib.hid (hio.out.below hb6 hh)
            have B6 := Lib.hid (hbw.out.trans hb6)
            have hc6 := (hfar.cell (o := 0) hsz (fun e => by have := how.out _ e; omega)).trans hc
            have hs6 := hfar.size
            have W6o : Hid (∀ g, v6.ownBlock = some g → g = w.heap.size + 1 ∨ w5.heap.size < g) := Lib.hid (fun g e => by
              rcases hat6 with h | h
              · exact how.out g (h ▸ e)
              · rw [h] at e
                injection e with e
                have hzA : (wr.alloc (.cells #[.int .i64 (k : Int)] 3)).heap.size = wr.heap.size + 1 := by simp
                omega)
            clear hown6 hgrow6 hnil6 hat6 hfar hb6 hown hrow hio hbw hc how HS2 cr
            go_wp2
            go_roundw
            case rel => exact ⟨k + 1, by omega, by go_num, O6, R6, I6, B6, hc6, W6o, by omega⟩
            case measure => simp [intOf]; omega
        · have hke : k = n1.length := by omega
          subst hke
          rw [HM.out] at hown
          clear hrow hio HM HLO HWF how
          go_wp2
          exact bodyPost_ret (v := .tuple #[u6, .bool true]) (by simp [results, Try.results15, go_sem]) rfl ⟨_, rfl, hown.out, hbw.out⟩
    | false =>
      rw [HQ2.out] at HM
      have HLO := Lib.hid (fun o (ho : o ∈ n2) => HLT.out false o (by rw [HQ2.out]; exact ho))
      clear HLT
      go_wp2
      generalize w5.alloc (.cells #[.slice a1 n1.length d1, .slice a2 n2.length d2] 57) = W6 at c6a c6b hs6 HO6 HR61 HR62 HI61 HI62 HB6 ⊢
      go_loopw [6, 11] (fun q i wr => ∃ k : Nat, k ≤ n2.length ∧ i = .int .i64 k ∧ Hid (OwnI wr w.heap.size q (movesK (f.map downN) n2 false k)) ∧ Hid (RowW w4.heap.size g1 f.length c1 (winsF (List.map downN f)).1 wr) ∧ Hid (IntsZ wr lo hi (.slice a2 n2.length d2) (upL n2)) ∧ Hid (Below w.heap.size w wr) ∧ wr.cell? ⟨w5.heap.size, 1, none⟩ = some (.slice a2 n2.length d2) ∧ Hid (∀ g, q.ownBlock = some g → g = w.heap.size + 1 ∨ w5.heap.size < g) ∧ w5.heap.size < wr.heap.size) (fun _ i _ => n2.length - (intOf i).toNat)
      case atStart => exact ⟨0, Nat.zero_le _, rfl, HO6, HR61, HI62, HB6, c6b, HOW, hs6⟩
      case round =>
        obtain ⟨k, hk, rfl, hown, hrow, hio, hbw, hc, how, hsz⟩ := hrel
        clear HO6 HR61 HR62 HI61 HI62 HB6 HOW c6a c6b hs6
        by_cases hlt : k < n2.length
        · obtain ⟨o, ho⟩ := lt_get hlt
          have hoi := HLO.out o (List.mem_of_getElem? ho)
          obtain ⟨b', off', rfl, hbb, hcell⟩ := ints_at hio.out ho
          obtain ⟨r, hr⟩ : ∃ r, soloF (f.map downN) o (!false) = r := ⟨_, rfl⟩
          have HS := Lib.hid (movesK_succ (f.map downN) n2 false k o r ho hr)
          have cr := hrow.out.at_ ((HWF.out o hoi).1.trans (congrArg some hr))
          have b0 : (0 : Int) ≤ k := by omega
          have b1' : (k : Int) < n2.length := by omega
          have o0 : (0 : Int) ≤ o := by omega
          have o1 : (o : Int) < f.length := by omega
          clear ho hr
          cases r with
          | true =>
            have HS2 : Hid (movesK (f.map downN) n2 false (k + 1) = movesK (f.map downN) n2 false k) := Lib.hid (by rw [HS.out]; simp)
            clear HS
            rw [← HS2.out] at hown
            go_wp2
            go_round
            case rel => exact ⟨k + 1, by omega, by go_num, hown, hrow, hio, hbw, hc, how, hsz⟩
            case measure => simp [intOf]; omega
          | false =>
            have HS2 : Hid (movesK (f.map downN) n2 false (k + 1) = movesK (f.map downN) n2 false k ++ [(k : Int)]) := Lib.hid (by rw [HS.out]; simp)
            have hml := movesK_len (f.map downN) n2 false k
            have hwz := hbw.out.size
            clear HS
            go_wp2_with (at_builtin; refine wpList_append_own_at _ rfl _ _ 34 rfl w.heap.size 3 i0 (.int .i64 0) 1 8 Try.underlying34 hi0 hz0 hz1 hz2 rfl (by decide) _ _ _ rfl (World.ownsRow.alloc hown.out _) ⟨wr.heap.size, 0, none⟩ 1 1 [.int .i64 (k : Int)] rfl rfl ?e1 ?e2 ?e3 ?e4 ?e5 ?_)
            case e1 => exact World.news_of_block (heap_alloc_new _ _)
            case e2 => first | rfl | (intro u hu; simp at hu; subst hu; rfl)
            case e3 => unfold maxLen; omega
            case e4 => omega
            case e5 => simp; omega
            intro v6 w6 hown6 hgrow6 hnil6 hat6
            have O6 : Hid (OwnI w6 w.heap.size v6 (movesK (f.map downN) n2 false (k + 1))) := Lib.hid (by rw [HS2.out]; unfold OwnI; rw [List.map_append, List.length_append]; exact hown6)
            have hfar : Only wr w6 (fun b => u6.ownBlock = some b) := (Only.of_below (F := fun b => u6.ownBlock = some b) ((Below.refl _ _).alloc (Nat.le_refl _) _)).trans (Only.of_grown (F := fun b => u6.ownBlock = some b) hgrow6 (fun g e => e)) (fun _ _ h => h)
            have R6 : Hid (RowW w4.heap.size g1 f.length c1 (winsF (List.map downN f)).1 w6) := Lib.hid (own_only hrow.out hfar (fun g e h => by have e2 := own_eqv e; have := how.out g h; omega))
            have hb6 : Below w.heap.size wr w6 := hfar.below hwz (fun g h => (hown.out.lt g h).1)
            have I6 := Lib.hid (hio.out.below hb6 hh)
            have B6 := Lib.hid (hbw.out.trans hb6)
            have hc6 := (hfar.cell (o := 1) hsz (fun e => by have := how.out _ e; omega)).trans hc
            have hs6 := hfar.size
            have W6o : Hid (∀ g, v6.ownBlock = some g → g = w.heap.size + 1 ∨ w5.heap.size < g) := Lib.hid (fun g e => by
              rcases hat6 with h | h
              · exact how.out g (h ▸ e)
              · rw [h] at e
                injection e with e
                have hzA : (wr.alloc (.cells #[.int .i64 (k : Int)] 3)).heap.size = wr.heap.size + 1 := by simp
                omega)
            clear hown6 hgrow6 hnil6 hat6 hfar hb6 hown hrow hio hbw hc how HS2 cr
            go_wp2
            go_roundw
            case rel => exact ⟨k + 1, by omega, by go_num, O6, R6, I6, B6, hc6, W6o, by omega⟩
            case measure => simp [intOf]; omega
        · have hke : k = n2.length := by omega
          subst hke
          rw [HM.out] at hown
          clear hrow hio HM HLO HWF how
          go_wp2
          exact bodyPost_ret (v := .tuple #[u6, .bool true]) (by simp [results, Try.results15, go_sem]) rfl ⟨_, rfl, hown.out, hbw.out⟩
end

end Go.Proofs.Ytabfdaofikccmaa
