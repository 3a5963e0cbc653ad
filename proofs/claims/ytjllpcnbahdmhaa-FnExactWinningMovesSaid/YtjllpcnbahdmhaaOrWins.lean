/- The model's l4Wins and l4First. -/
import Derived.Test.YtjllpcnbahdmhaaOrMath
import Derived.Test.YtjllpcnbahdmhaaFmReach
import Derived.Test.YtjllpcnbahdmhaaFmAdd
import Derived.Test.YtjllpcnbahdmhaaOrCtB
import Derived.Deep.Onto
namespace Go.Proofs.Ytjllpcnbahdmhaa
open Go.RowKit
set_option linter.unusedVariables false
set_option linter.unusedSimpArgs false

/-- a row of signs that grows -/
def RowW (base : Nat) (g n c : Nat) (T : List Bool) (w : World) : Prop := w.ownsRow base 4 1 (.slice (some ⟨g, 0, none⟩) n c) n (T.map Value.bool)

theorem RowW.at_ {base g n c x : Nat} {v : Bool} {T : List Bool} {w : World} (h : RowW base g n c T w) (hx : T[x]? = some v) : w.cell? ⟨g, x, none⟩ = some (.bool v) := by
  have hl : (T.map Value.bool).length = n * 1 := h.1
  have hlt := get_lt hx
  rw [List.length_map] at hl
  rw [World.ownsRow.cellAt h x (by omega), List.getElem?_map, hx]
  rfl

theorem own_eq {g q n c : Nat} (e : (Value.slice (some ⟨g, 0, none⟩) n c).ownBlock = some q) : g = q := by injection e

theorem far_eq {g q n c o : Nat} (e : some (⟨q, o, none⟩ : Addr).block = (Value.slice (some ⟨g, 0, none⟩) n c).ownBlock) : q = g := by injection e

theorem nodes_at' {w : World} {lo hi n c0 : Nat} {ao : Option Addr} {A : List Nd} (h : NodesZ w lo hi (.slice ao n c0) (A.map upN)) {i : Nat} {nd : Nd} (hi' : A[i]? = some nd) :
    ∃ b off c v1 v2, Value.slice ao n c0 = .slice (some ⟨b, off, none⟩) A.length c ∧ b < hi ∧ w.cell? ⟨b, off + i * 2, none⟩ = some v1 ∧ w.cell? ⟨b, off + i * 2 + 1, none⟩ = some v2 ∧ IntsZ w lo hi v1 (upL nd.1) ∧ IntsZ w lo hi v2 (upL nd.2) := nodes_at h hi'

theorem ints_len' {w : World} {lo hi : Nat} {v : Value} {l : List Nat} (h : IntsZ w lo hi v (upL l)) : ∃ ao c, v = .slice ao l.length c ∧ (l.length ≤ c ∧ c ≤ 9223372036854775807) := by
  obtain ⟨ao, c, rfl, h2, _⟩ := h
  have : (upL l).length = l.length := by unfold upL; simp
  rw [this] at h2 ⊢
  exact ⟨ao, c, rfl, h2⟩

theorem ints_at' {w : World} {lo hi : Nat} {ao : Option Addr} {n c : Nat} {l : List Nat} (h : IntsZ w lo hi (.slice ao n c) (upL l)) {k x : Nat} (hx : l[k]? = some x) : ∃ b off, ao = some ⟨b, off, none⟩ ∧ b < hi ∧ w.cell? ⟨b, off + k, none⟩ = some (.int .i64 (x : Int)) := by
  obtain ⟨ao', c', e, _, h3⟩ := h
  injection e with e1 _ _
  subst e1
  obtain ⟨b, off, e, _, hb, hc⟩ := h3 k (x : Int) (by unfold upL; rw [List.getElem?_map, hx]; rfl)
  exact ⟨b, off, e, hb, hc⟩

theorem winsF_take (f : List Nd) (k : Nat) (nd : Nd) (h : f[k]? = some nd) : winsF (f.take (k + 1)) = ((winsF (f.take k)).1 ++ [nd.1.any (fun x => !(winsF (f.take k)).2.getD x false)], (winsF (f.take k)).2 ++ [nd.2.any (fun x => !(winsF (f.take k)).1.getD x false)]) := by
  rw [List.take_succ_eq_append_getElem (get_lt h)]
  rw [List.getElem?_eq_getElem (get_lt h)] at h
  injection h with h
  rw [h, winsF_snoc]

theorem any_take_snoc {α : Type} (l : List α) (p : α → Bool) (k : Nat) (x : α) (hx : l[k]? = some x) : (l.take (k + 1)).any p = ((l.take k).any p || p x) := by
  rw [List.take_add_one, hx, List.any_append]
  simp

theorem RowW.len {base g n c : Nat} {T : List Bool} {w : World} (h : RowW base g n c T w) : T.length = n := by
  have hl : (T.map Value.bool).length = n * 1 := h.1
  simpa using hl

theorem RowW.lt {base g n c : Nat} {T : List Bool} {w : World} (h : RowW base g n c T w) : base ≤ g ∧ g < w.heap.size := World.ownsRow.lt h g rfl

set_option maxRecDepth 100000 in
set_option maxHeartbeats 4000000 in
theorem l4Wins_calls (v : Value) (f : List Nd) (w : World) (lo hi : Nat) (hh : hi ≤ w.heap.size) (hv : NodesZ w lo hi v (f.map upN)) (hu : Under f) (hl : f.length ≤ 1000) :
    Calls Try.prog 58 #[.agg #[v]] w fun e w' => ∃ g1 c1 g2 c2, e = .returned (.tuple #[.slice (some ⟨g1, 0, none⟩) f.length c1, .slice (some ⟨g2, 0, none⟩) f.length c2]) ∧
      RowW w.heap.size g1 f.length c1 (winsF f).1 w' ∧ RowW w.heap.size g2 f.length c2 (winsF f).2 w' ∧ Below w.heap.size w w' := by
  obtain ⟨i0, hi0, hz0, hz1, hz2⟩ := info_parts infoBool
  have HV := Lib.hid hv
  have HU := Lib.hid hu
  obtain ⟨ao, c0, rfl, hlm, hnn⟩ := hv
  have hlu : (f.map upN).length = f.length := by simp
  rw [hlu] at HV hlm ⊢
  clear hu hlu hnn
  have HB0 : Hid (Below w.heap.size w (((w.alloc (.cells #[.slice ao f.length c0] 28)).alloc (.cells #[] 4)).alloc (.cells #[] 4))) := Lib.hid ((((Below.refl _ _).alloc (Nat.le_refl _) _).alloc (by simp) _).alloc (by simp; omega) _)
  have hd0 : (((w.alloc (.cells #[.slice ao f.length c0] 28)).alloc (.cells #[] 4)).alloc (.cells #[] 4)).cell? ⟨w.heap.size, 0, none⟩ = some (.slice ao f.length c0) := by go_simp
  have HR0 : Hid (RowW (w.heap.size + 1) (w.heap.size + 1) 0 0 [] (((w.alloc (.cells #[.slice ao f.length c0] 28)).alloc (.cells #[] 4)).alloc (.cells #[] 4))) := Lib.hid (by
    have h := World.ownsRow_lit (base := w.heap.size + 1) (e := 4) (size := 1) (w.alloc (.cells #[.slice ao f.length c0] 28)) #[] 0 (by simp) (by unfold maxLen; omega) rfl
    rw [show (w.alloc (.cells #[.slice ao f.length c0] 28)).heap.size = w.heap.size + 1 from by simp] at h
    exact World.ownsRow.alloc h _)
  have HR1 : Hid (RowW (w.heap.size + 1) (w.heap.size + 1 + 1) 0 0 [] (((w.alloc (.cells #[.slice ao f.length c0] 28)).alloc (.cells #[] 4)).alloc (.cells #[] 4))) := Lib.hid (by
    have h := World.ownsRow_lit (base := w.heap.size + 1) (e := 4) (size := 1) ((w.alloc (.cells #[.slice ao f.length c0] 28)).alloc (.cells #[] 4)) #[] 0 (by simp) (by unfold maxLen; omega) rfl
    rw [show ((w.alloc (.cells #[.slice ao f.length c0] 28)).alloc (.cells #[] 4)).heap.size = w.heap.size + 1 + 1 from by simp] at h
    exact h)
  go_enter Try.func58, Try.ntmps58
  go_wp2
  go_loopw [4, 5, 6] (fun q1 q2 i wr => ∃ (k g1 c1 g2 c2 : Nat) (T1 T2 : List Bool), k ≤ f.length ∧ i = .int .i64 k ∧ q1 = .slice (some ⟨g1, 0, none⟩) k c1 ∧ q2 = .slice (some ⟨g2, 0, none⟩) k c2 ∧ Hid (winsF (f.take k) = (T1, T2)) ∧ g1 ≠ g2 ∧ Hid (RowW (w.heap.size + 1) g1 k c1 T1 wr) ∧ Hid (RowW (w.heap.size + 1) g2 k c2 T2 wr) ∧ Hid (Below w.heap.size w wr) ∧ wr.cell? ⟨w.heap.size, 0, none⟩ = some (.slice ao f.length c0)) (fun _ _ i _ => f.length - (intOf i).toNat)
  case atStart => exact ⟨0, w.heap.size + 1, 0, w.heap.size + 1 + 1, 0, [], [], Nat.zero_le _, rfl, rfl, rfl, Lib.hid rfl, by omega, HR0, HR1, HB0, hd0⟩
  case round =>
    obtain ⟨k, g1, c1, g2, c2, T1, T2, hk, rfl, rfl, rfl, hT, hne, hR1, hR2, hb, hd⟩ := hrel
    clear hd0 HB0 HR0 HR1
    have l1 := hR1.out.len
    have l2 := hR2.out.len
    have b1 := hR1.out.lt
    have b2 := hR2.out.lt
    have hwz := hb.out.size
    by_cases hlt : k < f.length
    · obtain ⟨nd, hx⟩ := lt_get hlt
      obtain ⟨b, off, cc, v1, v2, e1, hbh, p1, p2, i1, i2⟩ := nodes_at' (HV.out.below hb.out hh) hx
      obtain ⟨q1, _, q2⟩ := slice_inj e1
      subst q1 q2
      clear e1
      have hun := HU.out k nd hx
      have HN := Lib.hid (winsF_take f k nd hx)
      rw [hT.out] at HN
      obtain ⟨a1, d1, rfl, hd1⟩ := ints_len' i1
      obtain ⟨a2, d2, rfl, hd2⟩ := ints_len' i2
      have k0 : (0 : Int) ≤ k := by omega
      have k1 : (k : Int) < f.length := by omega
      obtain ⟨W1, hW1⟩ : ∃ W, W = wr := ⟨_, rfl⟩
      subst hW1
      have HI1 := Lib.hid i1
      have HI2 := Lib.hid i2
      have HL1 := Lib.hid l1
      have HL2 := Lib.hid l2
      clear i1 i2 hx hT l1 l2
      go_wp2
      go_loop [7, 9] (fun q i => ∃ j : Nat, j ≤ nd.1.length ∧ i = .int .i64 j ∧ q = .bool ((nd.1.take j).any (fun x => !T2.getD x false))) (fun _ i => nd.1.length - (intOf i).toNat)
      case atStart => exact ⟨0, Nat.zero_le _, rfl, rfl⟩
      case round =>
        obtain ⟨j, hj, rfl, rfl⟩ := hrel
        by_cases hjl : j < nd.1.length
        · obtain ⟨x, hxx⟩ := lt_get hjl
          have hxk : x < k := hun x (Or.inl (List.mem_of_getElem? hxx))
          obtain ⟨rv, hrv⟩ := lt_get (l := T2) (i := x) (by rw [HL2.out]; exact hxk)
          have cr := hR2.out.at_ hrv
          have HS := Lib.hid (any_take_snoc nd.1 (fun x => !T2.getD x false) j x hxx)
          have hgd : T2.getD x false = rv := by rw [List.getD_eq_getElem?_getD, hrv]; rfl
          rw [hgd] at HS
          obtain ⟨b', off', rfl, hbb, hcell⟩ := ints_at' HI1.out hxx
          have x0 : (0 : Int) ≤ x := by omega
          have x1 : (x : Int) < k := by omega
          have j0 : (0 : Int) ≤ j := by omega
          have j1 : (j : Int) < nd.1.length := by omega
          clear hgd hrv hxx
          generalize (nd.1.take j).any (fun x => !T2.getD x false) = B0 at HS ⊢
          cases B0 <;>
          · go_wp2
            go_round
            case rel => exact ⟨j + 1, by omega, by go_num, by rw [HS.out]; first | rfl | simp⟩
            case measure => simp [intOf]; omega
        · have hje : nd.1.take j = nd.1 := List.take_of_length_le (by omega)
          rw [hje]
          clear hje
          obtain ⟨BL, hBL⟩ : ∃ b, nd.1.any (fun x => !T2.getD x false) = b := ⟨_, rfl⟩
          rw [hBL] at HN ⊢
          clear hBL
          go_wp2
          go_loop [8, 10] (fun q i => ∃ j : Nat, j ≤ nd.2.length ∧ i = .int .i64 j ∧ q = .bool ((nd.2.take j).any (fun x => !T1.getD x false))) (fun _ i => nd.2.length - (intOf i).toNat)
          case atStart => exact ⟨0, Nat.zero_le _, rfl, rfl⟩
          case round =>
            obtain ⟨j, hj, rfl, rfl⟩ := hrel
            by_cases hjl : j < nd.2.length
            · obtain ⟨x, hxx⟩ := lt_get hjl
              have hxk : x < k := hun x (Or.inr (List.mem_of_getElem? hxx))
              obtain ⟨rv, hrv⟩ := lt_get (l := T1) (i := x) (by rw [HL1.out]; exact hxk)
              have cr := hR1.out.at_ hrv
              have HS := Lib.hid (any_take_snoc nd.2 (fun x => !T1.getD x false) j x hxx)
              have hgd : T1.getD x false = rv := by rw [List.getD_eq_getElem?_getD, hrv]; rfl
              rw [hgd] at HS
              obtain ⟨b', off', rfl, hbb, hcell⟩ := ints_at' HI2.out hxx
              have x0 : (0 : Int) ≤ x := by omega
              have x1 : (x : Int) < k := by omega
              have j0 : (0 : Int) ≤ j := by omega
              have j1 : (j : Int) < nd.2.length := by omega
              clear hgd hrv hxx
              generalize (nd.2.take j).any (fun x => !T1.getD x false) = B0 at HS ⊢
              cases B0 <;>
              · go_wp2
                go_round
                case rel => exact ⟨j + 1, by omega, by go_num, by rw [HS.out]; first | rfl | simp⟩
                case measure => simp [intOf]; omega
            · have hje : nd.2.take j = nd.2 := List.take_of_length_le (by omega)
              rw [hje]
              clear hje
              obtain ⟨BR, hBR⟩ : ∃ b, nd.2.any (fun x => !T1.getD x false) = b := ⟨_, rfl⟩
              rw [hBR] at HN ⊢
              clear hBR HI1 HI2 hun
              go_wp2_with (at_builtin; refine wpList_append_own_at _ rfl _ _ 71 rfl (w.heap.size + 1) 4 i0 (.bool false) 1 1 Try.underlying71 hi0 hz0 hz1 hz2 rfl (by decide) _ _ _ rfl (World.ownsRow.alloc hR1.out _) ⟨W1.heap.size, 0, none⟩ 1 1 [.bool BL] rfl rfl ?c1 ?c2 ?c3 ?c4 ?c5 ?_)
              case c2 => first | rfl | (intro u hu; simp at hu; subst hu; rfl)
              case c3 => unfold maxLen; omega
              case c4 => omega
              intro v6 w6 hown6 hgrow6 hnil6 hat6
              obtain ⟨g6, c6, rfl, _, _⟩ := hown6.form (by omega)
              have hzA : (W1.alloc (.cells #[.bool BL] 4)).heap.size = W1.heap.size + 1 := by simp
              have hne6 : g6 ≠ g2 := by
                rcases hat6 with e | e
                · have e2 : g6 = g1 := own_eq e
                  omega
                · skip
                  have e2 : g6 = W1.heap.size + 1 := own_eq e
                  omega
              have R1 : Hid (RowW (w.heap.size + 1) g6 (k + 1) c6 (T1 ++ [BL]) w6) := Lib.hid (by unfold RowW; rw [List.map_append]; exact hown6)
              have R2 : Hid (RowW (w.heap.size + 1) g2 k c2 T2 w6) := Lib.hid (own_only (World.ownsRow.alloc hR2.out _) (Only.of_grown (F := fun g => g = g1) hgrow6 (fun g e => (own_eq e).symm)) (fun g e e3 => by have e2 := own_eq e; omega))
              have HB6 : Hid (Below w.heap.size w w6) := Lib.hid ((hb.out.alloc hb.out.size _).grown hgrow6 (by rw [hzA]; omega) (fun q hq => by have e2 := own_eq hq; omega))
              have hd6 : w6.cell? ⟨w.heap.size, 0, none⟩ = some (.slice (some ⟨b, off, none⟩) f.length c0) := (hgrow6.cell_far ⟨w.heap.size, 0, none⟩ (by rw [hzA]; show w.heap.size < _; omega) (fun e => absurd (far_eq e) (by omega))).trans ((bcell ((Below.refl _ _).alloc (Nat.le_refl _) _) _ _ (block_of_cell hd)).trans hd)
              have hs6 : W1.heap.size + 1 ≤ w6.heap.size := by have := hgrow6.size; rw [hzA] at this; exact this
              have l6 := R1.out.lt
              have l62 := R2.out.lt
              clear hown6 hgrow6 hnil6 hat6 hR1 hR2 hb hd hzA p1 p2
              go_wp2_with (at_builtin; refine wpList_append_own_at _ rfl _ _ 71 rfl (w.heap.size + 1) 4 i0 (.bool false) 1 1 Try.underlying71 hi0 hz0 hz1 hz2 rfl (by decide) _ _ _ rfl (World.ownsRow.alloc R2.out _) ⟨w6.heap.size, 0, none⟩ 1 1 [.bool BR] rfl rfl ?e1 ?e2 ?e3 ?e4 ?e5 ?_)
              case e1 => exact World.news_of_block (heap_alloc_new _ _)
              case e2 => first | rfl | (intro u hu; simp at hu; subst hu; rfl)
              case e3 => unfold maxLen; omega
              case e4 => omega
              case e5 => simp; omega
              intro v7 w7 hown7 hgrow7 hnil7 hat7
              obtain ⟨g7, c7, rfl, _, _⟩ := hown7.form (by omega)
              have hzA : (w6.alloc (.cells #[.bool BR] 4)).heap.size = w6.heap.size + 1 := by simp
              have hne7 : g6 ≠ g7 := by
                rcases hat7 with e | e
                · have e2 : g7 = g2 := own_eq e
                  omega
                · skip
                  have e2 : g7 = w6.heap.size + 1 := own_eq e
                  omega
              have Q2 : Hid (RowW (w.heap.size + 1) g7 (k + 1) c7 (T2 ++ [BR]) w7) := Lib.hid (by unfold RowW; rw [List.map_append]; exact hown7)
              have Q1 : Hid (RowW (w.heap.size + 1) g6 (k + 1) c6 (T1 ++ [BL]) w7) := Lib.hid (own_only (World.ownsRow.alloc R1.out _) (Only.of_grown (F := fun g => g = g2) hgrow7 (fun g e => (own_eq e).symm)) (fun g e e3 => by have e2 := own_eq e; omega))
              have HB7 : Hid (Below w.heap.size w w7) := Lib.hid ((HB6.out.alloc HB6.out.size _).grown hgrow7 (by rw [hzA]; omega) (fun q hq => by have e2 := own_eq hq; omega))
              have hd7 : w7.cell? ⟨w.heap.size, 0, none⟩ = some (.slice (some ⟨b, off, none⟩) f.length c0) := (hgrow7.cell_far ⟨w.heap.size, 0, none⟩ (by rw [hzA]; show w.heap.size < _; omega) (fun e => absurd (far_eq e) (by omega))).trans ((bcell ((Below.refl _ _).alloc (Nat.le_refl _) _) _ _ (block_of_cell hd6)).trans hd6)
              clear hown7 hgrow7 hnil7 hat7 R1 R2 HB6 hd6 hzA
              go_wp2
              go_roundw
              case rel => exact ⟨k + 1, g6, c6, g7, c7, _, _, by omega, by go_num, rfl, rfl, HN, hne7, Q1, Q2, HB7, hd7⟩
              case measure => simp [intOf]; omega
    · have hke : k = f.length := by omega
      subst hke
      rw [List.take_length] at hT
      have bn : ¬ (f.length : Int) < f.length := by omega
      have Q1 : Hid (RowW w.heap.size g1 f.length c1 (winsF f).1 wr) := Lib.hid (by rw [hT.out]; exact World.ownsRow.mono hR1.out (by omega))
      have Q2 : Hid (RowW w.heap.size g2 f.length c2 (winsF f).2 wr) := Lib.hid (by rw [hT.out]; exact World.ownsRow.mono hR2.out (by omega))
      clear hR1 hR2 hT
      go_wp2
      exact bodyPost_ret (v := .tuple #[.slice (some ⟨g1, 0, none⟩) f.length c1, .slice (some ⟨g2, 0, none⟩) f.length c2]) (by simp [results, Try.results58, go_sem]) rfl ⟨g1, c1, g2, c2, rfl, Q1.out, Q2.out, hb.out⟩

end Go.Proofs.Ytjllpcnbahdmhaa
