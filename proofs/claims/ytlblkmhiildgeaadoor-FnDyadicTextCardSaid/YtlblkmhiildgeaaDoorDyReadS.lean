/- spec.ReadDyadic. -/
import Derived.Test.YtlblkmhiildgeaaDoorDyDigits
import Derived.Test.YtlblkmhiildgeaaDoorSplit1
import Derived.Test.YtlblkmhiildgeaaDoorDyReadI
import Derived.Deep.LoopGhost
namespace Go.Proofs.YtlblkmhiildgeaaDoor
open Go.RowKit
set_option linter.unusedVariables false

/-- the place of the answer, the number under way in block d, the part behind the mark in row g -/
def DS (w : World) (d g : Nat) (T K : Int) (q : ByteArray) (W : World) : Prop := SoloS w W ∧ W.cell? ⟨d, 0, none⟩ = some (.int .i64 T) ∧ W.cell? ⟨d, 1, none⟩ = some (.int .i64 K) ∧ W.frozen? ⟨d, 1, none⟩ = false ∧ W.cell? ⟨g, 1, none⟩ = some (.string q)
theorem ds_start {w W : World} {g : Nat} {T : Int} {q : ByteArray} {t : TypeId} (h : SoloS w W) (hq : W.cell? ⟨g, 1, none⟩ = some (.string q)) : DS w W.heap.size g T 0 q (W.alloc (.cells #[.int .i64 T, .int .i64 0] t)) := by
  have e := heap_alloc_new W (.cells #[.int .i64 T, .int .i64 0] t)
  refine ⟨solo_alloc h, ?_, ?_, ?_, ?_⟩
  · simp only [World.cell?, e]; rfl
  · simp only [World.cell?, e]; rfl
  · simp only [World.frozen?, e]; rfl
  · exact cell_on ((Below.refl _ _).alloc (Nat.le_refl _) _) hq
theorem ds_drawn {w W : World} {d g : Nat} {T K : Int} {q : ByteArray} (h : DS w d g T K q W) (n : Nat) : DS w d g T K q (W.drewN n) := ⟨solo_drawn h.1 n, h.2.1, h.2.2.1, h.2.2.2.1, h.2.2.2.2⟩
theorem cell_apart {W : World} {d k b o : Nat} {v : Value} (h : b ≠ d) : (W.setCell ⟨d, k, none⟩ v).cell? ⟨b, o, none⟩ = W.cell? ⟨b, o, none⟩ := cell_far h
theorem ds_set {w W : World} {d g : Nat} {T K K' : Int} {q : ByteArray} (hd : w.heap.size < d) (hg : g ≠ d) (h : DS w d g T K q W) : DS w d g T K' q (W.setCell ⟨d, 1, none⟩ (.int .i64 K')) := by
  obtain ⟨⟨h0, h1, h2, h3, h4, h5⟩, e0, e1, e2, e3⟩ := h
  have n10 : (⟨d, 1, none⟩ : Addr) ≠ ⟨d, 0, none⟩ := by intro e; injection e with _ e2; omega
  refine ⟨⟨curV_of ((cell_far (by omega)).trans h0), curV_of ((cell_far (by omega)).trans h1), by rw [World.frozen?_setCell]; exact h2, by rw [World.frozen?_setCell]; exact h3, by simpa using h4, h5.setCell (by show w.heap.size ≤ d; omega) _⟩, (World.cell?_setCell_other _ _ _ _ n10).trans e0, World.cell?_setCell_same _ _ _ e1, by rw [World.frozen?_setCell]; exact e2, (cell_far hg).trans e3⟩

theorem split47 (s : ByteArray) (w : World) (hs : s.size ≤ 1048576) :
    Calls Tryd.prog 62 #[.string s, .int .u8 47] w fun e w' => (∃ g n c, e = .returned (.slice (some ⟨g, 0, none⟩) n c) ∧ n = (spAll s 47).length ∧ ∀ j x, (spAll s 47)[j]? = some x → w'.cell? ⟨g, j, none⟩ = some (.string x)) ∧ Below w.heap.size w w' := by
  refine (l1Split_calls s 47 w hs).mono ?_
  rintro e w' ⟨v, rfl, hown, _, hb⟩
  obtain ⟨g, c, rfl⟩ := ownsStrs_shape hown (by simp [spAll])
  refine ⟨⟨g, _, c, rfl, rfl, fun j x hx => ?_⟩, hb⟩
  have hj : j < (spAll s 47).length := (List.getElem?_eq_some_iff.1 hx).1
  have h2 := World.ownsRow.cellAt hown j (by omega)
  rw [List.getElem?_map, hx] at h2
  exact h2

theorem head_at {p : ByteArray} (h : 0 < p.size) : p.data.toList.head? = some p[0] := by
  rw [List.head?_eq_getElem?, List.getElem?_eq_getElem (by simpa using h)]
  rfl
theorem tail_at (p : ByteArray) : (p.extract 1 p.size).data.toList = p.data.toList.tail := by
  rw [Lib.extract_to_end, List.drop_one]
theorem spAll_pos (s : ByteArray) (b : UInt8) : 0 < (spAll s b).length := by simp [spAll]

set_option maxHeartbeats 4000000 in
theorem readS_core (s p : ByteArray) (T : Int) (r : Int × Int × Bool) (w : World) (hs : s.size ≤ 1048576) (hp : p.size ≤ 1048576) (H0 : Hid ((spAll s 47)[0]? = some p)) (hT : T = topD p.data.toList)
    (HF : ∀ K : Nat, ((spAll s 47).length ≤ 1 → K = 0) → (∀ q, (spAll s 47)[1]? = some q → (K < 16 → bt (Lib.itoa (2 ^ K)) = q) ∧ K ≤ 16 ∧ ∀ j : Nat, j < K → bt (Lib.itoa (2 ^ j)) ≠ q) →
      Hid ((goodD T K = true → textD T K = s.data.toList → r = (T, (K : Int), true)) ∧ (¬ (goodD T K = true ∧ textD T K = s.data.toList) → r = (0, 0, false)))) :
    Calls Tryd.prog 30 #[.string s] w fun e w' => e = .returned (.tuple #[.agg #[.int .i64 r.1, .int .i64 r.2.1], .bool r.2.2]) ∧ Below w.heap.size w w' := by
  have HSP : ∀ W, Hid (Calls Tryd.prog 62 #[.string s, .int .u8 47] W fun e w' => (∃ g n c, e = .returned (.slice (some ⟨g, 0, none⟩) n c) ∧ n = (spAll s 47).length ∧ ∀ j x, (spAll s 47)[j]? = some x → w'.cell? ⟨g, j, none⟩ = some (.string x)) ∧ Below W.heap.size W w') := fun W => Lib.hid (split47 s W hs)
  have hbd := topD_bd p.data.toList
  rw [← hT] at hbd
  obtain ⟨hb1, hb2⟩ := hbd
  by_cases hz : 0 < p.size
  · by_cases h45 : p[0] = 45
    · have hv : T = -digD (p.extract 1 p.size).data.toList := by
        rw [hT, topD, if_pos (by rw [head_at hz, h45]), tail_at]
      have HD : ∀ W, Hid (Calls Tryd.prog 63 #[.string (p.extract 1 p.size)] W fun e w' => e = .returned (.int .i64 (digD (p.extract 1 p.size).data.toList)) ∧ W = w') := fun W => Lib.hid (digits_any _ W (by simp; omega))
      have h3 : ((p[0].toNat : Int) == 45) = true := by rw [h45]; rfl
      generalize digD (p.extract 1 p.size).data.toList = v at hv HD
      have hv2 : v = -T := by omega
      clear hT hs hv h45
      subst hv2
      have hP0 := solo_start w (.int .i64 0) (.int .i64 0) 25
      go_enter Tryd.func30, Tryd.ntmps30
      go_wp2_with fail
      refine (HSP _).out.mono ?_
      rintro e w1 ⟨⟨g, n, c, rfl, hn, hcells⟩, hb⟩
      have hP1 := solo_next hb hP0
      have q0 := hcells 0 _ H0.out
      have hn0 : 0 < n := by rw [hn]; exact spAll_pos _ _
      have HCL := Lib.hid hcells
      have HN := Lib.hid hn
      clear hcells hn hb
      by_cases hn1 : 1 < n
      · obtain ⟨q, hq⟩ : ∃ q, (spAll s 47)[1]? = some q := ⟨_, List.getElem?_eq_getElem (by rw [← HN.out]; exact hn1)⟩
        have q1 := HCL.out 1 _ hq
        have HQ := Lib.hid hq
        have hgd : g < w1.heap.size := World.block_lt_of_cell? w1 ⟨g, 1, none⟩ q1
        have hwd : w.heap.size < w1.heap.size := hP1.2.2.2.2.1
        clear hq HCL
        go_wp2_with fail
        refine (HD _).out.mono ?_
        rintro e w2 ⟨rfl, rfl⟩
        go_wp2_with fail
        have hDS0 := ds_start (g := g) (T := T) (q := q) (t := 25) hP1 q1
        go_loopg [] 16 (fun nn wr => ∃ k : Nat, nn + k = 16 ∧ DS w w1.heap.size g T k q wr ∧ Hid (∀ j : Nat, j < k → bt (Lib.itoa (2 ^ j)) ≠ q))
        case atStart => exact ⟨0, rfl, hDS0, Lib.hid (fun j hj => by omega)⟩
        case round =>
          obtain ⟨k, hk, hDS, hne⟩ := hrel
          clear hDS0
          have hQ := hDS
          obtain ⟨_, e0, e1, e2, e3⟩ := hQ
          generalize hdd : w1.heap.size = d at *
          clear hdd
          by_cases h16 : k < 16
          · have hb := pow_bd k (by omega)
            have HU : ∀ W, Hid (Calls Tryd.prog 64 #[.int .i64 (2 ^ k)] W fun e w' => e = .returned (.string (bt (Lib.itoa (2 ^ k)))) ∧ ∃ m, w' = W.drewN m) := fun W => Lib.hid (numS_any _ W (by omega) (by omega))
            have g1 : (0 : Int) ≤ k := by omega
            have g2 : (k : Int) ≤ 64 := by omega
            have g3 : (k : Int).toNat = k := by omega
            have g4 : IntKind.i64.wrap (2 ^ k) = 2 ^ k := IntWalk.i64_in _ (by omega)
            have g5 : IntKind.u64.wrap (k : Int) = k := by rw [IntKind.wrap_u64]; omega
            have g6 : (k : Int) < 16 := by omega
            clear hb
            by_cases he : bt (Lib.itoa (2 ^ k)) = q
            · have hes : ((bt (Lib.itoa (2 ^ k))).toList == q.toList) = true := by rw [he]; simp
              have HE := Lib.hid he
              clear he
              generalize hu : bt (Lib.itoa (2 ^ k)) = u at HU hes HE
              have HU2 := Lib.hid hu
              clear hu
              go_wp2_with fail
              go_quiet ((go_at_call 64; exact Calls.quiet_of (HU _).out))
              go_wp2_with fail
              have hDS := ds_drawn hDS nq
              clear e0 e1 e2 e3
              generalize wr.drewN nq = WW at hDS ⊢
              have HF := HF k (fun h => absurd hn1 (by rw [HN.out]; omega)) (fun q2 hq2 => by rw [HQ.out] at hq2; cases hq2; exact ⟨fun _ => HU2.out.trans HE.out, by omega, hne.out⟩)
              obtain ⟨hS, e0, e1, _, _⟩ := hDS
              by_cases hg : goodD T k = true
              · by_cases ht : textD T k = s.data.toList
                · have hres := HF.out.1 hg ht
                  subst hres
                  have he := bt_eq ht
                  obtain ⟨b1, b2, b3, b4, _⟩ := goodD_iff.1 hg
                  have HX : ∀ W, Hid (Calls Tryd.prog 56 #[.agg #[.int .i64 T, .int .i64 k]] W fun e w' => e = .returned (.string (bt (textD T k))) ∧ Below W.heap.size W w') := fun W => Lib.hid (textS_any T k W b1 b2 (by omega))
                  have HG := Lib.hid hg
                  clear hg ht HF b1 b2 b3 b4
                  generalize bt (textD T k) = tx at he HX
                  go_wp2_with fail
                  refine ((goodS_calls _ _ _).mono fun e w' h => (HG.out ▸ h : _ ∧ _)).mono ?_
                  rintro e w3 ⟨rfl, hb⟩
                  have hS3 := solo_next hb hS
                  have e30 := cell_on hb e0
                  have e31 := cell_on hb e1
                  have hQ := hS3
                  obtain ⟨c30, c31, c32, c33, c34, HBx⟩ := hQ
                  clear hb HBx
                  go_wp2_with fail
                  refine ((HX _).out).mono ?_
                  rintro e w4 ⟨rfl, hb⟩
                  have hS4 := solo_next hb hS3
                  have e40 := cell_on hb e30
                  have e41 := cell_on hb e31
                  have hQ := hS4
                  obtain ⟨c40, c41, c42, c43, c44, HBx⟩ := hQ
                  clear hb HBx
                  go_wp2_with fail
                  refine bodyPost_ret (v := .tuple #[.agg #[.int .i64 T, .int .i64 k], .bool true]) (by simp [*, results, Tryd.results30, go_sem]) rfl ⟨rfl, ?_⟩
                  exact (hS4.2.2.2.2.2.setCell (Nat.le_refl _) _).setCell (Nat.le_refl _) _
                · have hres := HF.out.2 (fun h => ht h.2)
                  subst hres
                  have he := bt_ne ht
                  obtain ⟨b1, b2, b3, b4, _⟩ := goodD_iff.1 hg
                  have HX : ∀ W, Hid (Calls Tryd.prog 56 #[.agg #[.int .i64 T, .int .i64 k]] W fun e w' => e = .returned (.string (bt (textD T k))) ∧ Below W.heap.size W w') := fun W => Lib.hid (textS_any T k W b1 b2 (by omega))
                  have HG := Lib.hid hg
                  clear hg ht HF b1 b2 b3 b4
                  generalize bt (textD T k) = tx at he HX
                  go_wp2_with fail
                  refine ((goodS_calls _ _ _).mono fun e w' h => (HG.out ▸ h : _ ∧ _)).mono ?_
                  rintro e w3 ⟨rfl, hb⟩
                  have hS3 := solo_next hb hS
                  have e30 := cell_on hb e0
                  have e31 := cell_on hb e1
                  have hQ := hS3
                  obtain ⟨c30, c31, c32, c33, c34, HBx⟩ := hQ
                  clear hb HBx
                  go_wp2_with fail
                  refine ((HX _).out).mono ?_
                  rintro e w4 ⟨rfl, hb⟩
                  have hS4 := solo_next hb hS3
                  have e40 := cell_on hb e30
                  have e41 := cell_on hb e31
                  have hQ := hS4
                  obtain ⟨c40, c41, c42, c43, c44, HBx⟩ := hQ
                  clear hb HBx
                  go_wp2_with fail
                  refine bodyPost_ret (v := .tuple #[.agg #[.int .i64 0, .int .i64 0], .bool false]) (by simp [*, results, Tryd.results30, go_sem]) rfl ⟨rfl, ?_⟩
                  exact (hS4.2.2.2.2.2.setCell (Nat.le_refl _) _).setCell (Nat.le_refl _) _
              · have hres := HF.out.2 (fun h => hg h.1)
                subst hres
                have HG := Lib.hid (by simpa using hg : goodD T k = false)
                clear hg HF
                go_wp2_with fail
                refine ((goodS_calls _ _ _).mono fun e w' h => (HG.out ▸ h : _ ∧ _)).mono ?_
                rintro e w3 ⟨rfl, hb⟩
                have hS3 := solo_next hb hS
                have e30 := cell_on hb e0
                have e31 := cell_on hb e1
                have hQ := hS3
                obtain ⟨c30, c31, c32, c33, c34, HBx⟩ := hQ
                clear hb HBx
                go_wp2_with fail
                refine bodyPost_ret (v := .tuple #[.agg #[.int .i64 0, .int .i64 0], .bool false]) (by simp [*, results, Tryd.results30, go_sem]) rfl ⟨rfl, ?_⟩
                exact (hS3.2.2.2.2.2.setCell (Nat.le_refl _) _).setCell (Nat.le_refl _) _
            · have hes : ((bt (Lib.itoa (2 ^ k))).toList == q.toList) = false := bt_ne (s := q) (l := Lib.itoa (2 ^ k)) (fun h => he (ByteArray.ext (Array.toList_inj.mp h)))
              have hne2 : Hid (∀ j : Nat, j < k + 1 → bt (Lib.itoa (2 ^ j)) ≠ q) := Lib.hid (fun j hj => by
                by_cases e : j = k
                · rw [e]; exact he
                · exact hne.out j (by omega))
              have HE := Lib.hid he
              clear he
              generalize hu : bt (Lib.itoa (2 ^ k)) = u at HU hes HE
              have HU2 := Lib.hid hu
              clear hu
              go_wp2_with fail
              go_quiet ((go_at_call 64; exact Calls.quiet_of (HU _).out))
              go_wp2_with fail
              go_roundg (15 - k)
              case measure => omega
              case rel => exact ⟨k + 1, by omega, by first | exact ds_drawn (ds_set (K' := (k : Int) + 1) hwd (Nat.ne_of_lt hgd) hDS) nq | exact ds_set (K' := (k : Int) + 1) hwd (Nat.ne_of_lt hgd) (ds_drawn hDS nq), hne2⟩
          · obtain rfl : k = 16 := by omega
            have g6 : ¬ ((16 : Nat) : Int) < 16 := by omega
            go_wp2_with fail
            go_quiet (fail)
            go_wp2_with fail
            have hDS := ds_drawn hDS nq
            clear e0 e1 e2 e3
            generalize wr.drewN nq = WW at hDS ⊢
            have HF := HF 16 (fun h => absurd hn1 (by rw [HN.out]; omega)) (fun q2 hq2 => by rw [HQ.out] at hq2; cases hq2; exact ⟨fun h => by omega, by omega, hne.out⟩)
            obtain ⟨hS, e0, e1, _, _⟩ := hDS
            by_cases hg : goodD T 16 = true
            · by_cases ht : textD T 16 = s.data.toList
              · have hres := HF.out.1 hg ht
                subst hres
                have he := bt_eq ht
                obtain ⟨b1, b2, b3, b4, _⟩ := goodD_iff.1 hg
                have HX : ∀ W, Hid (Calls Tryd.prog 56 #[.agg #[.int .i64 T, .int .i64 16]] W fun e w' => e = .returned (.string (bt (textD T 16))) ∧ Below W.heap.size W w') := fun W => Lib.hid (textS_any T 16 W b1 b2 (by omega))
                have HG := Lib.hid hg
                clear hg ht HF b1 b2 b3 b4
                generalize bt (textD T 16) = tx at he HX
                go_wp2_with fail
                refine ((goodS_calls _ _ _).mono fun e w' h => (HG.out ▸ h : _ ∧ _)).mono ?_
                rintro e w3 ⟨rfl, hb⟩
                have hS3 := solo_next hb hS
                have e30 := cell_on hb e0
                have e31 := cell_on hb e1
                have hQ := hS3
                obtain ⟨c30, c31, c32, c33, c34, HBx⟩ := hQ
                clear hb HBx
                go_wp2_with fail
                refine ((HX _).out).mono ?_
                rintro e w4 ⟨rfl, hb⟩
                have hS4 := solo_next hb hS3
                have e40 := cell_on hb e30
                have e41 := cell_on hb e31
                have hQ := hS4
                obtain ⟨c40, c41, c42, c43, c44, HBx⟩ := hQ
                clear hb HBx
                go_wp2_with fail
                refine bodyPost_ret (v := .tuple #[.agg #[.int .i64 T, .int .i64 16], .bool true]) (by simp [*, results, Tryd.results30, go_sem]) rfl ⟨rfl, ?_⟩
                exact (hS4.2.2.2.2.2.setCell (Nat.le_refl _) _).setCell (Nat.le_refl _) _
              · have hres := HF.out.2 (fun h => ht h.2)
                subst hres
                have he := bt_ne ht
                obtain ⟨b1, b2, b3, b4, _⟩ := goodD_iff.1 hg
                have HX : ∀ W, Hid (Calls Tryd.prog 56 #[.agg #[.int .i64 T, .int .i64 16]] W fun e w' => e = .returned (.string (bt (textD T 16))) ∧ Below W.heap.size W w') := fun W => Lib.hid (textS_any T 16 W b1 b2 (by omega))
                have HG := Lib.hid hg
                clear hg ht HF b1 b2 b3 b4
                generalize bt (textD T 16) = tx at he HX
                go_wp2_with fail
                refine ((goodS_calls _ _ _).mono fun e w' h => (HG.out ▸ h : _ ∧ _)).mono ?_
                rintro e w3 ⟨rfl, hb⟩
                have hS3 := solo_next hb hS
                have e30 := cell_on hb e0
                have e31 := cell_on hb e1
                have hQ := hS3
                obtain ⟨c30, c31, c32, c33, c34, HBx⟩ := hQ
                clear hb HBx
                go_wp2_with fail
                refine ((HX _).out).mono ?_
                rintro e w4 ⟨rfl, hb⟩
                have hS4 := solo_next hb hS3
                have e40 := cell_on hb e30
                have e41 := cell_on hb e31
                have hQ := hS4
                obtain ⟨c40, c41, c42, c43, c44, HBx⟩ := hQ
                clear hb HBx
                go_wp2_with fail
                refine bodyPost_ret (v := .tuple #[.agg #[.int .i64 0, .int .i64 0], .bool false]) (by simp [*, results, Tryd.results30, go_sem]) rfl ⟨rfl, ?_⟩
                exact (hS4.2.2.2.2.2.setCell (Nat.le_refl _) _).setCell (Nat.le_refl _) _
            · have hres := HF.out.2 (fun h => hg h.1)
              subst hres
              have HG := Lib.hid (by simpa using hg : goodD T 16 = false)
              clear hg HF
              go_wp2_with fail
              refine ((goodS_calls _ _ _).mono fun e w' h => (HG.out ▸ h : _ ∧ _)).mono ?_
              rintro e w3 ⟨rfl, hb⟩
              have hS3 := solo_next hb hS
              have e30 := cell_on hb e0
              have e31 := cell_on hb e1
              have hQ := hS3
              obtain ⟨c30, c31, c32, c33, c34, HBx⟩ := hQ
              clear hb HBx
              go_wp2_with fail
              refine bodyPost_ret (v := .tuple #[.agg #[.int .i64 0, .int .i64 0], .bool false]) (by simp [*, results, Tryd.results30, go_sem]) rfl ⟨rfl, ?_⟩
              exact (hS3.2.2.2.2.2.setCell (Nat.le_refl _) _).setCell (Nat.le_refl _) _
      · clear HCL
        go_wp2_with fail
        refine (HD _).out.mono ?_
        rintro e w2 ⟨rfl, rfl⟩
        go_wp2_with fail
        have HF := HF 0 (fun _ => rfl) (fun q hq => absurd (List.getElem?_eq_some_iff.1 hq).1 (by rw [← HN.out]; exact hn1))
        have hS := solo_alloc (o := .cells #[.int .i64 T, .int .i64 0] 25) hP1
        have e0 : (w1.alloc (.cells #[.int .i64 T, .int .i64 0] 25)).cell? ⟨w1.heap.size, 0, none⟩ = some (.int .i64 T) := by simp
        have e1 : (w1.alloc (.cells #[.int .i64 T, .int .i64 0] 25)).cell? ⟨w1.heap.size, 1, none⟩ = some (.int .i64 0) := by simp
        generalize w1.alloc (.cells #[.int .i64 T, .int .i64 0] 25) = WW at hS e0 e1 ⊢
        by_cases hg : goodD T 0 = true
        · by_cases ht : textD T 0 = s.data.toList
          · have hres := HF.out.1 hg ht
            subst hres
            have he := bt_eq ht
            obtain ⟨b1, b2, b3, b4, _⟩ := goodD_iff.1 hg
            have HX : ∀ W, Hid (Calls Tryd.prog 56 #[.agg #[.int .i64 T, .int .i64 0]] W fun e w' => e = .returned (.string (bt (textD T 0))) ∧ Below W.heap.size W w') := fun W => Lib.hid (textS_any T 0 W b1 b2 (by omega))
            have HG := Lib.hid hg
            clear hg ht HF b1 b2 b3 b4
            generalize bt (textD T 0) = tx at he HX
            go_wp2_with fail
            refine ((goodS_calls _ _ _).mono fun e w' h => (HG.out ▸ h : _ ∧ _)).mono ?_
            rintro e w3 ⟨rfl, hb⟩
            have hS3 := solo_next hb hS
            have e30 := cell_on hb e0
            have e31 := cell_on hb e1
            have hQ := hS3
            obtain ⟨c30, c31, c32, c33, c34, HBx⟩ := hQ
            clear hb HBx
            go_wp2_with fail
            refine ((HX _).out).mono ?_
            rintro e w4 ⟨rfl, hb⟩
            have hS4 := solo_next hb hS3
            have e40 := cell_on hb e30
            have e41 := cell_on hb e31
            have hQ := hS4
            obtain ⟨c40, c41, c42, c43, c44, HBx⟩ := hQ
            clear hb HBx
            go_wp2_with fail
            refine bodyPost_ret (v := .tuple #[.agg #[.int .i64 T, .int .i64 0], .bool true]) (by simp [*, results, Tryd.results30, go_sem]) rfl ⟨rfl, ?_⟩
            exact (hS4.2.2.2.2.2.setCell (Nat.le_refl _) _).setCell (Nat.le_refl _) _
          · have hres := HF.out.2 (fun h => ht h.2)
            subst hres
            have he := bt_ne ht
            obtain ⟨b1, b2, b3, b4, _⟩ := goodD_iff.1 hg
            have HX : ∀ W, Hid (Calls Tryd.prog 56 #[.agg #[.int .i64 T, .int .i64 0]] W fun e w' => e = .returned (.string (bt (textD T 0))) ∧ Below W.heap.size W w') := fun W => Lib.hid (textS_any T 0 W b1 b2 (by omega))
            have HG := Lib.hid hg
            clear hg ht HF b1 b2 b3 b4
            generalize bt (textD T 0) = tx at he HX
            go_wp2_with fail
            refine ((goodS_calls _ _ _).mono fun e w' h => (HG.out ▸ h : _ ∧ _)).mono ?_
            rintro e w3 ⟨rfl, hb⟩
            have hS3 := solo_next hb hS
            have e30 := cell_on hb e0
            have e31 := cell_on hb e1
            have hQ := hS3
            obtain ⟨c30, c31, c32, c33, c34, HBx⟩ := hQ
            clear hb HBx
            go_wp2_with fail
            refine ((HX _).out).mono ?_
            rintro e w4 ⟨rfl, hb⟩
            have hS4 := solo_next hb hS3
            have e40 := cell_on hb e30
            have e41 := cell_on hb e31
            have hQ := hS4
            obtain ⟨c40, c41, c42, c43, c44, HBx⟩ := hQ
            clear hb HBx
            go_wp2_with fail
            refine bodyPost_ret (v := .tuple #[.agg #[.int .i64 0, .int .i64 0], .bool false]) (by simp [*, results, Tryd.results30, go_sem]) rfl ⟨rfl, ?_⟩
            exact (hS4.2.2.2.2.2.setCell (Nat.le_refl _) _).setCell (Nat.le_refl _) _
        · have hres := HF.out.2 (fun h => hg h.1)
          subst hres
          have HG := Lib.hid (by simpa using hg : goodD T 0 = false)
          clear hg HF
          go_wp2_with fail
          refine ((goodS_calls _ _ _).mono fun e w' h => (HG.out ▸ h : _ ∧ _)).mono ?_
          rintro e w3 ⟨rfl, hb⟩
          have hS3 := solo_next hb hS
          have e30 := cell_on hb e0
          have e31 := cell_on hb e1
          have hQ := hS3
          obtain ⟨c30, c31, c32, c33, c34, HBx⟩ := hQ
          clear hb HBx
          go_wp2_with fail
          refine bodyPost_ret (v := .tuple #[.agg #[.int .i64 0, .int .i64 0], .bool false]) (by simp [*, results, Tryd.results30, go_sem]) rfl ⟨rfl, ?_⟩
          exact (hS3.2.2.2.2.2.setCell (Nat.le_refl _) _).setCell (Nat.le_refl _) _
    · have hv : T = digD p.data.toList := by
        rw [hT, topD, if_neg (by rw [head_at hz]; intro e; exact h45 (Option.some.inj e))]
      have HD : ∀ W, Hid (Calls Tryd.prog 63 #[.string p] W fun e w' => e = .returned (.int .i64 T) ∧ W = w') := fun W => Lib.hid (by rw [hv]; exact digits_any p W hp)
      have h3 : ((p[0].toNat : Int) == 45) = false := by
        rw [beq_eq_false_iff_ne]
        intro e
        exact h45 (UInt8.toNat_inj.1 (show p[0].toNat = 45 by omega))
      clear hT hs hv h45
      have hP0 := solo_start w (.int .i64 0) (.int .i64 0) 25
      go_enter Tryd.func30, Tryd.ntmps30
      go_wp2_with fail
      refine (HSP _).out.mono ?_
      rintro e w1 ⟨⟨g, n, c, rfl, hn, hcells⟩, hb⟩
      have hP1 := solo_next hb hP0
      have q0 := hcells 0 _ H0.out
      have hn0 : 0 < n := by rw [hn]; exact spAll_pos _ _
      have HCL := Lib.hid hcells
      have HN := Lib.hid hn
      clear hcells hn hb
      by_cases hn1 : 1 < n
      · obtain ⟨q, hq⟩ : ∃ q, (spAll s 47)[1]? = some q := ⟨_, List.getElem?_eq_getElem (by rw [← HN.out]; exact hn1)⟩
        have q1 := HCL.out 1 _ hq
        have HQ := Lib.hid hq
        have hgd : g < w1.heap.size := World.block_lt_of_cell? w1 ⟨g, 1, none⟩ q1
        have hwd : w.heap.size < w1.heap.size := hP1.2.2.2.2.1
        clear hq HCL
        go_wp2_with fail
        refine (HD _).out.mono ?_
        rintro e w2 ⟨rfl, rfl⟩
        go_wp2_with fail
        have hDS0 := ds_start (g := g) (T := T) (q := q) (t := 25) hP1 q1
        go_loopg [] 16 (fun nn wr => ∃ k : Nat, nn + k = 16 ∧ DS w w1.heap.size g T k q wr ∧ Hid (∀ j : Nat, j < k → bt (Lib.itoa (2 ^ j)) ≠ q))
        case atStart => exact ⟨0, rfl, hDS0, Lib.hid (fun j hj => by omega)⟩
        case round =>
          obtain ⟨k, hk, hDS, hne⟩ := hrel
          clear hDS0
          have hQ := hDS
          obtain ⟨_, e0, e1, e2, e3⟩ := hQ
          generalize hdd : w1.heap.size = d at *
          clear hdd
          by_cases h16 : k < 16
          · have hb := pow_bd k (by omega)
            have HU : ∀ W, Hid (Calls Tryd.prog 64 #[.int .i64 (2 ^ k)] W fun e w' => e = .returned (.string (bt (Lib.itoa (2 ^ k)))) ∧ ∃ m, w' = W.drewN m) := fun W => Lib.hid (numS_any _ W (by omega) (by omega))
            have g1 : (0 : Int) ≤ k := by omega
            have g2 : (k : Int) ≤ 64 := by omega
            have g3 : (k : Int).toNat = k := by omega
            have g4 : IntKind.i64.wrap (2 ^ k) = 2 ^ k := IntWalk.i64_in _ (by omega)
            have g5 : IntKind.u64.wrap (k : Int) = k := by rw [IntKind.wrap_u64]; omega
            have g6 : (k : Int) < 16 := by omega
            clear hb
            by_cases he : bt (Lib.itoa (2 ^ k)) = q
            · have hes : ((bt (Lib.itoa (2 ^ k))).toList == q.toList) = true := by rw [he]; simp
              have HE := Lib.hid he
              clear he
              generalize hu : bt (Lib.itoa (2 ^ k)) = u at HU hes HE
              have HU2 := Lib.hid hu
              clear hu
              go_wp2_with fail
              go_quiet ((go_at_call 64; exact Calls.quiet_of (HU _).out))
              go_wp2_with fail
              have hDS := ds_drawn hDS nq
              clear e0 e1 e2 e3
              generalize wr.drewN nq = WW at hDS ⊢
              have HF := HF k (fun h => absurd hn1 (by rw [HN.out]; omega)) (fun q2 hq2 => by rw [HQ.out] at hq2; cases hq2; exact ⟨fun _ => HU2.out.trans HE.out, by omega, hne.out⟩)
              obtain ⟨hS, e0, e1, _, _⟩ := hDS
              by_cases hg : goodD T k = true
              · by_cases ht : textD T k = s.data.toList
                · have hres := HF.out.1 hg ht
                  subst hres
                  have he := bt_eq ht
                  obtain ⟨b1, b2, b3, b4, _⟩ := goodD_iff.1 hg
                  have HX : ∀ W, Hid (Calls Tryd.prog 56 #[.agg #[.int .i64 T, .int .i64 k]] W fun e w' => e = .returned (.string (bt (textD T k))) ∧ Below W.heap.size W w') := fun W => Lib.hid (textS_any T k W b1 b2 (by omega))
                  have HG := Lib.hid hg
                  clear hg ht HF b1 b2 b3 b4
                  generalize bt (textD T k) = tx at he HX
                  go_wp2_with fail
                  refine ((goodS_calls _ _ _).mono fun e w' h => (HG.out ▸ h : _ ∧ _)).mono ?_
                  rintro e w3 ⟨rfl, hb⟩
                  have hS3 := solo_next hb hS
                  have e30 := cell_on hb e0
                  have e31 := cell_on hb e1
                  have hQ := hS3
                  obtain ⟨c30, c31, c32, c33, c34, HBx⟩ := hQ
                  clear hb HBx
                  go_wp2_with fail
                  refine ((HX _).out).mono ?_
                  rintro e w4 ⟨rfl, hb⟩
                  have hS4 := solo_next hb hS3
                  have e40 := cell_on hb e30
                  have e41 := cell_on hb e31
                  have hQ := hS4
                  obtain ⟨c40, c41, c42, c43, c44, HBx⟩ := hQ
                  clear hb HBx
                  go_wp2_with fail
                  refine bodyPost_ret (v := .tuple #[.agg #[.int .i64 T, .int .i64 k], .bool true]) (by simp [*, results, Tryd.results30, go_sem]) rfl ⟨rfl, ?_⟩
                  exact (hS4.2.2.2.2.2.setCell (Nat.le_refl _) _).setCell (Nat.le_refl _) _
                · have hres := HF.out.2 (fun h => ht h.2)
                  subst hres
                  have he := bt_ne ht
                  obtain ⟨b1, b2, b3, b4, _⟩ := goodD_iff.1 hg
                  have HX : ∀ W, Hid (Calls Tryd.prog 56 #[.agg #[.int .i64 T, .int .i64 k]] W fun e w' => e = .returned (.string (bt (textD T k))) ∧ Below W.heap.size W w') := fun W => Lib.hid (textS_any T k W b1 b2 (by omega))
                  have HG := Lib.hid hg
                  clear hg ht HF b1 b2 b3 b4
                  generalize bt (textD T k) = tx at he HX
                  go_wp2_with fail
                  refine ((goodS_calls _ _ _).mono fun e w' h => (HG.out ▸ h : _ ∧ _)).mono ?_
                  rintro e w3 ⟨rfl, hb⟩
                  have hS3 := solo_next hb hS
                  have e30 := cell_on hb e0
                  have e31 := cell_on hb e1
                  have hQ := hS3
                  obtain ⟨c30, c31, c32, c33, c34, HBx⟩ := hQ
                  clear hb HBx
                  go_wp2_with fail
                  refine ((HX _).out).mono ?_
                  rintro e w4 ⟨rfl, hb⟩
                  have hS4 := solo_next hb hS3
                  have e40 := cell_on hb e30
                  have e41 := cell_on hb e31
                  have hQ := hS4
                  obtain ⟨c40, c41, c42, c43, c44, HBx⟩ := hQ
                  clear hb HBx
                  go_wp2_with fail
                  refine bodyPost_ret (v := .tuple #[.agg #[.int .i64 0, .int .i64 0], .bool false]) (by simp [*, results, Tryd.results30, go_sem]) rfl ⟨rfl, ?_⟩
                  exact (hS4.2.2.2.2.2.setCell (Nat.le_refl _) _).setCell (Nat.le_refl _) _
              · have hres := HF.out.2 (fun h => hg h.1)
                subst hres
                have HG := Lib.hid (by simpa using hg : goodD T k = false)
                clear hg HF
                go_wp2_with fail
                refine ((goodS_calls _ _ _).mono fun e w' h => (HG.out ▸ h : _ ∧ _)).mono ?_
                rintro e w3 ⟨rfl, hb⟩
                have hS3 := solo_next hb hS
                have e30 := cell_on hb e0
                have e31 := cell_on hb e1
                have hQ := hS3
                obtain ⟨c30, c31, c32, c33, c34, HBx⟩ := hQ
                clear hb HBx
                go_wp2_with fail
                refine bodyPost_ret (v := .tuple #[.agg #[.int .i64 0, .int .i64 0], .bool false]) (by simp [*, results, Tryd.results30, go_sem]) rfl ⟨rfl, ?_⟩
                exact (hS3.2.2.2.2.2.setCell (Nat.le_refl _) _).setCell (Nat.le_refl _) _
            · have hes : ((bt (Lib.itoa (2 ^ k))).toList == q.toList) = false := bt_ne (s := q) (l := Lib.itoa (2 ^ k)) (fun h => he (ByteArray.ext (Array.toList_inj.mp h)))
              have hne2 : Hid (∀ j : Nat, j < k + 1 → bt (Lib.itoa (2 ^ j)) ≠ q) := Lib.hid (fun j hj => by
                by_cases e : j = k
                · rw [e]; exact he
                · exact hne.out j (by omega))
              have HE := Lib.hid he
              clear he
              generalize hu : bt (Lib.itoa (2 ^ k)) = u at HU hes HE
              have HU2 := Lib.hid hu
              clear hu
              go_wp2_with fail
              go_quiet ((go_at_call 64; exact Calls.quiet_of (HU _).out))
              go_wp2_with fail
              go_roundg (15 - k)
              case measure => omega
              case rel => exact ⟨k + 1, by omega, by first | exact ds_drawn (ds_set (K' := (k : Int) + 1) hwd (Nat.ne_of_lt hgd) hDS) nq | exact ds_set (K' := (k : Int) + 1) hwd (Nat.ne_of_lt hgd) (ds_drawn hDS nq), hne2⟩
          · obtain rfl : k = 16 := by omega
            have g6 : ¬ ((16 : Nat) : Int) < 16 := by omega
            go_wp2_with fail
            go_quiet (fail)
            go_wp2_with fail
            have hDS := ds_drawn hDS nq
            clear e0 e1 e2 e3
            generalize wr.drewN nq = WW at hDS ⊢
            have HF := HF 16 (fun h => absurd hn1 (by rw [HN.out]; omega)) (fun q2 hq2 => by rw [HQ.out] at hq2; cases hq2; exact ⟨fun h => by omega, by omega, hne.out⟩)
            obtain ⟨hS, e0, e1, _, _⟩ := hDS
            by_cases hg : goodD T 16 = true
            · by_cases ht : textD T 16 = s.data.toList
              · have hres := HF.out.1 hg ht
                subst hres
                have he := bt_eq ht
                obtain ⟨b1, b2, b3, b4, _⟩ := goodD_iff.1 hg
                have HX : ∀ W, Hid (Calls Tryd.prog 56 #[.agg #[.int .i64 T, .int .i64 16]] W fun e w' => e = .returned (.string (bt (textD T 16))) ∧ Below W.heap.size W w') := fun W => Lib.hid (textS_any T 16 W b1 b2 (by omega))
                have HG := Lib.hid hg
                clear hg ht HF b1 b2 b3 b4
                generalize bt (textD T 16) = tx at he HX
                go_wp2_with fail
                refine ((goodS_calls _ _ _).mono fun e w' h => (HG.out ▸ h : _ ∧ _)).mono ?_
                rintro e w3 ⟨rfl, hb⟩
                have hS3 := solo_next hb hS
                have e30 := cell_on hb e0
                have e31 := cell_on hb e1
                have hQ := hS3
                obtain ⟨c30, c31, c32, c33, c34, HBx⟩ := hQ
                clear hb HBx
                go_wp2_with fail
                refine ((HX _).out).mono ?_
                rintro e w4 ⟨rfl, hb⟩
                have hS4 := solo_next hb hS3
                have e40 := cell_on hb e30
                have e41 := cell_on hb e31
                have hQ := hS4
                obtain ⟨c40, c41, c42, c43, c44, HBx⟩ := hQ
                clear hb HBx
                go_wp2_with fail
                refine bodyPost_ret (v := .tuple #[.agg #[.int .i64 T, .int .i64 16], .bool true]) (by simp [*, results, Tryd.results30, go_sem]) rfl ⟨rfl, ?_⟩
                exact (hS4.2.2.2.2.2.setCell (Nat.le_refl _) _).setCell (Nat.le_refl _) _
              · have hres := HF.out.2 (fun h => ht h.2)
                subst hres
                have he := bt_ne ht
                obtain ⟨b1, b2, b3, b4, _⟩ := goodD_iff.1 hg
                have HX : ∀ W, Hid (Calls Tryd.prog 56 #[.agg #[.int .i64 T, .int .i64 16]] W fun e w' => e = .returned (.string (bt (textD T 16))) ∧ Below W.heap.size W w') := fun W => Lib.hid (textS_any T 16 W b1 b2 (by omega))
                have HG := Lib.hid hg
                clear hg ht HF b1 b2 b3 b4
                generalize bt (textD T 16) = tx at he HX
                go_wp2_with fail
                refine ((goodS_calls _ _ _).mono fun e w' h => (HG.out ▸ h : _ ∧ _)).mono ?_
                rintro e w3 ⟨rfl, hb⟩
                have hS3 := solo_next hb hS
                have e30 := cell_on hb e0
                have e31 := cell_on hb e1
                have hQ := hS3
                obtain ⟨c30, c31, c32, c33, c34, HBx⟩ := hQ
                clear hb HBx
                go_wp2_with fail
                refine ((HX _).out).mono ?_
                rintro e w4 ⟨rfl, hb⟩
                have hS4 := solo_next hb hS3
                have e40 := cell_on hb e30
                have e41 := cell_on hb e31
                have hQ := hS4
                obtain ⟨c40, c41, c42, c43, c44, HBx⟩ := hQ
                clear hb HBx
                go_wp2_with fail
                refine bodyPost_ret (v := .tuple #[.agg #[.int .i64 0, .int .i64 0], .bool false]) (by simp [*, results, Tryd.results30, go_sem]) rfl ⟨rfl, ?_⟩
                exact (hS4.2.2.2.2.2.setCell (Nat.le_refl _) _).setCell (Nat.le_refl _) _
            · have hres := HF.out.2 (fun h => hg h.1)
              subst hres
              have HG := Lib.hid (by simpa using hg : goodD T 16 = false)
              clear hg HF
              go_wp2_with fail
              refine ((goodS_calls _ _ _).mono fun e w' h => (HG.out ▸ h : _ ∧ _)).mono ?_
              rintro e w3 ⟨rfl, hb⟩
              have hS3 := solo_next hb hS
              have e30 := cell_on hb e0
              have e31 := cell_on hb e1
              have hQ := hS3
              obtain ⟨c30, c31, c32, c33, c34, HBx⟩ := hQ
              clear hb HBx
              go_wp2_with fail
              refine bodyPost_ret (v := .tuple #[.agg #[.int .i64 0, .int .i64 0], .bool false]) (by simp [*, results, Tryd.results30, go_sem]) rfl ⟨rfl, ?_⟩
              exact (hS3.2.2.2.2.2.setCell (Nat.le_refl _) _).setCell (Nat.le_refl _) _
      · clear HCL
        go_wp2_with fail
        refine (HD _).out.mono ?_
        rintro e w2 ⟨rfl, rfl⟩
        go_wp2_with fail
        have HF := HF 0 (fun _ => rfl) (fun q hq => absurd (List.getElem?_eq_some_iff.1 hq).1 (by rw [← HN.out]; exact hn1))
        have hS := solo_alloc (o := .cells #[.int .i64 T, .int .i64 0] 25) hP1
        have e0 : (w1.alloc (.cells #[.int .i64 T, .int .i64 0] 25)).cell? ⟨w1.heap.size, 0, none⟩ = some (.int .i64 T) := by simp
        have e1 : (w1.alloc (.cells #[.int .i64 T, .int .i64 0] 25)).cell? ⟨w1.heap.size, 1, none⟩ = some (.int .i64 0) := by simp
        generalize w1.alloc (.cells #[.int .i64 T, .int .i64 0] 25) = WW at hS e0 e1 ⊢
        by_cases hg : goodD T 0 = true
        · by_cases ht : textD T 0 = s.data.toList
          · have hres := HF.out.1 hg ht
            subst hres
            have he := bt_eq ht
            obtain ⟨b1, b2, b3, b4, _⟩ := goodD_iff.1 hg
            have HX : ∀ W, Hid (Calls Tryd.prog 56 #[.agg #[.int .i64 T, .int .i64 0]] W fun e w' => e = .returned (.string (bt (textD T 0))) ∧ Below W.heap.size W w') := fun W => Lib.hid (textS_any T 0 W b1 b2 (by omega))
            have HG := Lib.hid hg
            clear hg ht HF b1 b2 b3 b4
            generalize bt (textD T 0) = tx at he HX
            go_wp2_with fail
            refine ((goodS_calls _ _ _).mono fun e w' h => (HG.out ▸ h : _ ∧ _)).mono ?_
            rintro e w3 ⟨rfl, hb⟩
            have hS3 := solo_next hb hS
            have e30 := cell_on hb e0
            have e31 := cell_on hb e1
            have hQ := hS3
            obtain ⟨c30, c31, c32, c33, c34, HBx⟩ := hQ
            clear hb HBx
            go_wp2_with fail
            refine ((HX _).out).mono ?_
            rintro e w4 ⟨rfl, hb⟩
            have hS4 := solo_next hb hS3
            have e40 := cell_on hb e30
            have e41 := cell_on hb e31
            have hQ := hS4
            obtain ⟨c40, c41, c42, c43, c44, HBx⟩ := hQ
            clear hb HBx
            go_wp2_with fail
            refine bodyPost_ret (v := .tuple #[.agg #[.int .i64 T, .int .i64 0], .bool true]) (by simp [*, results, Tryd.results30, go_sem]) rfl ⟨rfl, ?_⟩
            exact (hS4.2.2.2.2.2.setCell (Nat.le_refl _) _).setCell (Nat.le_refl _) _
          · have hres := HF.out.2 (fun h => ht h.2)
            subst hres
            have he := bt_ne ht
            obtain ⟨b1, b2, b3, b4, _⟩ := goodD_iff.1 hg
            have HX : ∀ W, Hid (Calls Tryd.prog 56 #[.agg #[.int .i64 T, .int .i64 0]] W fun e w' => e = .returned (.string (bt (textD T 0))) ∧ Below W.heap.size W w') := fun W => Lib.hid (textS_any T 0 W b1 b2 (by omega))
            have HG := Lib.hid hg
            clear hg ht HF b1 b2 b3 b4
            generalize bt (textD T 0) = tx at he HX
            go_wp2_with fail
            refine ((goodS_calls _ _ _).mono fun e w' h => (HG.out ▸ h : _ ∧ _)).mono ?_
            rintro e w3 ⟨rfl, hb⟩
            have hS3 := solo_next hb hS
            have e30 := cell_on hb e0
            have e31 := cell_on hb e1
            have hQ := hS3
            obtain ⟨c30, c31, c32, c33, c34, HBx⟩ := hQ
            clear hb HBx
            go_wp2_with fail
            refine ((HX _).out).mono ?_
            rintro e w4 ⟨rfl, hb⟩
            have hS4 := solo_next hb hS3
            have e40 := cell_on hb e30
            have e41 := cell_on hb e31
            have hQ := hS4
            obtain ⟨c40, c41, c42, c43, c44, HBx⟩ := hQ
            clear hb HBx
            go_wp2_with fail
            refine bodyPost_ret (v := .tuple #[.agg #[.int .i64 0, .int .i64 0], .bool false]) (by simp [*, results, Tryd.results30, go_sem]) rfl ⟨rfl, ?_⟩
            exact (hS4.2.2.2.2.2.setCell (Nat.le_refl _) _).setCell (Nat.le_refl _) _
        · have hres := HF.out.2 (fun h => hg h.1)
          subst hres
          have HG := Lib.hid (by simpa using hg : goodD T 0 = false)
          clear hg HF
          go_wp2_with fail
          refine ((goodS_calls _ _ _).mono fun e w' h => (HG.out ▸ h : _ ∧ _)).mono ?_
          rintro e w3 ⟨rfl, hb⟩
          have hS3 := solo_next hb hS
          have e30 := cell_on hb e0
          have e31 := cell_on hb e1
          have hQ := hS3
          obtain ⟨c30, c31, c32, c33, c34, HBx⟩ := hQ
          clear hb HBx
          go_wp2_with fail
          refine bodyPost_ret (v := .tuple #[.agg #[.int .i64 0, .int .i64 0], .bool false]) (by simp [*, results, Tryd.results30, go_sem]) rfl ⟨rfl, ?_⟩
          exact (hS3.2.2.2.2.2.setCell (Nat.le_refl _) _).setCell (Nat.le_refl _) _
  · have hv : T = digD p.data.toList := by
      rw [hT, topD, if_neg (by
        rw [List.eq_nil_of_length_eq_zero (l := p.data.toList) (by have h7 : p.data.toList.length = p.size := Array.length_toList; omega)]
        simp)]
    have HD : ∀ W, Hid (Calls Tryd.prog 63 #[.string p] W fun e w' => e = .returned (.int .i64 T) ∧ W = w') := fun W => Lib.hid (by rw [hv]; exact digits_any p W hp)
    clear hT hs hv
    have hP0 := solo_start w (.int .i64 0) (.int .i64 0) 25
    go_enter Tryd.func30, Tryd.ntmps30
    go_wp2_with fail
    refine (HSP _).out.mono ?_
    rintro e w1 ⟨⟨g, n, c, rfl, hn, hcells⟩, hb⟩
    have hP1 := solo_next hb hP0
    have q0 := hcells 0 _ H0.out
    have hn0 : 0 < n := by rw [hn]; exact spAll_pos _ _
    have HCL := Lib.hid hcells
    have HN := Lib.hid hn
    clear hcells hn hb
    by_cases hn1 : 1 < n
    · obtain ⟨q, hq⟩ : ∃ q, (spAll s 47)[1]? = some q := ⟨_, List.getElem?_eq_getElem (by rw [← HN.out]; exact hn1)⟩
      have q1 := HCL.out 1 _ hq
      have HQ := Lib.hid hq
      have hgd : g < w1.heap.size := World.block_lt_of_cell? w1 ⟨g, 1, none⟩ q1
      have hwd : w.heap.size < w1.heap.size := hP1.2.2.2.2.1
      clear hq HCL
      go_wp2_with fail
      refine (HD _).out.mono ?_
      rintro e w2 ⟨rfl, rfl⟩
      go_wp2_with fail
      have hDS0 := ds_start (g := g) (T := T) (q := q) (t := 25) hP1 q1
      go_loopg [] 16 (fun nn wr => ∃ k : Nat, nn + k = 16 ∧ DS w w1.heap.size g T k q wr ∧ Hid (∀ j : Nat, j < k → bt (Lib.itoa (2 ^ j)) ≠ q))
      case atStart => exact ⟨0, rfl, hDS0, Lib.hid (fun j hj => by omega)⟩
      case round =>
        obtain ⟨k, hk, hDS, hne⟩ := hrel
        clear hDS0
        have hQ := hDS
        obtain ⟨_, e0, e1, e2, e3⟩ := hQ
        generalize hdd : w1.heap.size = d at *
        clear hdd
        by_cases h16 : k < 16
        · have hb := pow_bd k (by omega)
          have HU : ∀ W, Hid (Calls Tryd.prog 64 #[.int .i64 (2 ^ k)] W fun e w' => e = .returned (.string (bt (Lib.itoa (2 ^ k)))) ∧ ∃ m, w' = W.drewN m) := fun W => Lib.hid (numS_any _ W (by omega) (by omega))
          have g1 : (0 : Int) ≤ k := by omega
          have g2 : (k : Int) ≤ 64 := by omega
          have g3 : (k : Int).toNat = k := by omega
          have g4 : IntKind.i64.wrap (2 ^ k) = 2 ^ k := IntWalk.i64_in _ (by omega)
          have g5 : IntKind.u64.wrap (k : Int) = k := by rw [IntKind.wrap_u64]; omega
          have g6 : (k : Int) < 16 := by omega
          clear hb
          by_cases he : bt (Lib.itoa (2 ^ k)) = q
          · have hes : ((bt (Lib.itoa (2 ^ k))).toList == q.toList) = true := by rw [he]; simp
            have HE := Lib.hid he
            clear he
            generalize hu : bt (Lib.itoa (2 ^ k)) = u at HU hes HE
            have HU2 := Lib.hid hu
            clear hu
            go_wp2_with fail
            go_quiet ((go_at_call 64; exact Calls.quiet_of (HU _).out))
            go_wp2_with fail
            have hDS := ds_drawn hDS nq
            clear e0 e1 e2 e3
            generalize wr.drewN nq = WW at hDS ⊢
            have HF := HF k (fun h => absurd hn1 (by rw [HN.out]; omega)) (fun q2 hq2 => by rw [HQ.out] at hq2; cases hq2; exact ⟨fun _ => HU2.out.trans HE.out, by omega, hne.out⟩)
            obtain ⟨hS, e0, e1, _, _⟩ := hDS
            by_cases hg : goodD T k = true
            · by_cases ht : textD T k = s.data.toList
              · have hres := HF.out.1 hg ht
                subst hres
                have he := bt_eq ht
                obtain ⟨b1, b2, b3, b4, _⟩ := goodD_iff.1 hg
                have HX : ∀ W, Hid (Calls Tryd.prog 56 #[.agg #[.int .i64 T, .int .i64 k]] W fun e w' => e = .returned (.string (bt (textD T k))) ∧ Below W.heap.size W w') := fun W => Lib.hid (textS_any T k W b1 b2 (by omega))
                have HG := Lib.hid hg
                clear hg ht HF b1 b2 b3 b4
                generalize bt (textD T k) = tx at he HX
                go_wp2_with fail
                refine ((goodS_calls _ _ _).mono fun e w' h => (HG.out ▸ h : _ ∧ _)).mono ?_
                rintro e w3 ⟨rfl, hb⟩
                have hS3 := solo_next hb hS
                have e30 := cell_on hb e0
                have e31 := cell_on hb e1
                have hQ := hS3
                obtain ⟨c30, c31, c32, c33, c34, HBx⟩ := hQ
                clear hb HBx
                go_wp2_with fail
                refine ((HX _).out).mono ?_
                rintro e w4 ⟨rfl, hb⟩
                have hS4 := solo_next hb hS3
                have e40 := cell_on hb e30
                have e41 := cell_on hb e31
                have hQ := hS4
                obtain ⟨c40, c41, c42, c43, c44, HBx⟩ := hQ
                clear hb HBx
                go_wp2_with fail
                refine bodyPost_ret (v := .tuple #[.agg #[.int .i64 T, .int .i64 k], .bool true]) (by simp [*, results, Tryd.results30, go_sem]) rfl ⟨rfl, ?_⟩
                exact (hS4.2.2.2.2.2.setCell (Nat.le_refl _) _).setCell (Nat.le_refl _) _
              · have hres := HF.out.2 (fun h => ht h.2)
                subst hres
                have he := bt_ne ht
                obtain ⟨b1, b2, b3, b4, _⟩ := goodD_iff.1 hg
                have HX : ∀ W, Hid (Calls Tryd.prog 56 #[.agg #[.int .i64 T, .int .i64 k]] W fun e w' => e = .returned (.string (bt (textD T k))) ∧ Below W.heap.size W w') := fun W => Lib.hid (textS_any T k W b1 b2 (by omega))
                have HG := Lib.hid hg
                clear hg ht HF b1 b2 b3 b4
                generalize bt (textD T k) = tx at he HX
                go_wp2_with fail
                refine ((goodS_calls _ _ _).mono fun e w' h => (HG.out ▸ h : _ ∧ _)).mono ?_
                rintro e w3 ⟨rfl, hb⟩
                have hS3 := solo_next hb hS
                have e30 := cell_on hb e0
                have e31 := cell_on hb e1
                have hQ := hS3
                obtain ⟨c30, c31, c32, c33, c34, HBx⟩ := hQ
                clear hb HBx
                go_wp2_with fail
                refine ((HX _).out).mono ?_
                rintro e w4 ⟨rfl, hb⟩
                have hS4 := solo_next hb hS3
                have e40 := cell_on hb e30
                have e41 := cell_on hb e31
                have hQ := hS4
                obtain ⟨c40, c41, c42, c43, c44, HBx⟩ := hQ
                clear hb HBx
                go_wp2_with fail
                refine bodyPost_ret (v := .tuple #[.agg #[.int .i64 0, .int .i64 0], .bool false]) (by simp [*, results, Tryd.results30, go_sem]) rfl ⟨rfl, ?_⟩
                exact (hS4.2.2.2.2.2.setCell (Nat.le_refl _) _).setCell (Nat.le_refl _) _
            · have hres := HF.out.2 (fun h => hg h.1)
              subst hres
              have HG := Lib.hid (by simpa using hg : goodD T k = false)
              clear hg HF
              go_wp2_with fail
              refine ((goodS_calls _ _ _).mono fun e w' h => (HG.out ▸ h : _ ∧ _)).mono ?_
              rintro e w3 ⟨rfl, hb⟩
              have hS3 := solo_next hb hS
              have e30 := cell_on hb e0
              have e31 := cell_on hb e1
              have hQ := hS3
              obtain ⟨c30, c31, c32, c33, c34, HBx⟩ := hQ
              clear hb HBx
              go_wp2_with fail
              refine bodyPost_ret (v := .tuple #[.agg #[.int .i64 0, .int .i64 0], .bool false]) (by simp [*, results, Tryd.results30, go_sem]) rfl ⟨rfl, ?_⟩
              exact (hS3.2.2.2.2.2.setCell (Nat.le_refl _) _).setCell (Nat.le_refl _) _
          · have hes : ((bt (Lib.itoa (2 ^ k))).toList == q.toList) = false := bt_ne (s := q) (l := Lib.itoa (2 ^ k)) (fun h => he (ByteArray.ext (Array.toList_inj.mp h)))
            have hne2 : Hid (∀ j : Nat, j < k + 1 → bt (Lib.itoa (2 ^ j)) ≠ q) := Lib.hid (fun j hj => by
              by_cases e : j = k
              · rw [e]; exact he
              · exact hne.out j (by omega))
            have HE := Lib.hid he
            clear he
            generalize hu : bt (Lib.itoa (2 ^ k)) = u at HU hes HE
            have HU2 := Lib.hid hu
            clear hu
            go_wp2_with fail
            go_quiet ((go_at_call 64; exact Calls.quiet_of (HU _).out))
            go_wp2_with fail
            go_roundg (15 - k)
            case measure => omega
            case rel => exact ⟨k + 1, by omega, by first | exact ds_drawn (ds_set (K' := (k : Int) + 1) hwd (Nat.ne_of_lt hgd) hDS) nq | exact ds_set (K' := (k : Int) + 1) hwd (Nat.ne_of_lt hgd) (ds_drawn hDS nq), hne2⟩
        · obtain rfl : k = 16 := by omega
          have g6 : ¬ ((16 : Nat) : Int) < 16 := by omega
          go_wp2_with fail
          go_quiet (fail)
          go_wp2_with fail
          have hDS := ds_drawn hDS nq
          clear e0 e1 e2 e3
          generalize wr.drewN nq = WW at hDS ⊢
          have HF := HF 16 (fun h => absurd hn1 (by rw [HN.out]; omega)) (fun q2 hq2 => by rw [HQ.out] at hq2; cases hq2; exact ⟨fun h => by omega, by omega, hne.out⟩)
          obtain ⟨hS, e0, e1, _, _⟩ := hDS
          by_cases hg : goodD T 16 = true
          · by_cases ht : textD T 16 = s.data.toList
            · have hres := HF.out.1 hg ht
              subst hres
              have he := bt_eq ht
              obtain ⟨b1, b2, b3, b4, _⟩ := goodD_iff.1 hg
              have HX : ∀ W, Hid (Calls Tryd.prog 56 #[.agg #[.int .i64 T, .int .i64 16]] W fun e w' => e = .returned (.string (bt (textD T 16))) ∧ Below W.heap.size W w') := fun W => Lib.hid (textS_any T 16 W b1 b2 (by omega))
              have HG := Lib.hid hg
              clear hg ht HF b1 b2 b3 b4
              generalize bt (textD T 16) = tx at he HX
              go_wp2_with fail
              refine ((goodS_calls _ _ _).mono fun e w' h => (HG.out ▸ h : _ ∧ _)).mono ?_
              rintro e w3 ⟨rfl, hb⟩
              have hS3 := solo_next hb hS
              have e30 := cell_on hb e0
              have e31 := cell_on hb e1
              have hQ := hS3
              obtain ⟨c30, c31, c32, c33, c34, HBx⟩ := hQ
              clear hb HBx
              go_wp2_with fail
              refine ((HX _).out).mono ?_
              rintro e w4 ⟨rfl, hb⟩
              have hS4 := solo_next hb hS3
              have e40 := cell_on hb e30
              have e41 := cell_on hb e31
              have hQ := hS4
              obtain ⟨c40, c41, c42, c43, c44, HBx⟩ := hQ
              clear hb HBx
              go_wp2_with fail
              refine bodyPost_ret (v := .tuple #[.agg #[.int .i64 T, .int .i64 16], .bool true]) (by simp [*, results, Tryd.results30, go_sem]) rfl ⟨rfl, ?_⟩
              exact (hS4.2.2.2.2.2.setCell (Nat.le_refl _) _).setCell (Nat.le_refl _) _
            · have hres := HF.out.2 (fun h => ht h.2)
              subst hres
              have he := bt_ne ht
              obtain ⟨b1, b2, b3, b4, _⟩ := goodD_iff.1 hg
              have HX : ∀ W, Hid (Calls Tryd.prog 56 #[.agg #[.int .i64 T, .int .i64 16]] W fun e w' => e = .returned (.string (bt (textD T 16))) ∧ Below W.heap.size W w') := fun W => Lib.hid (textS_any T 16 W b1 b2 (by omega))
              have HG := Lib.hid hg
              clear hg ht HF b1 b2 b3 b4
              generalize bt (textD T 16) = tx at he HX
              go_wp2_with fail
              refine ((goodS_calls _ _ _).mono fun e w' h => (HG.out ▸ h : _ ∧ _)).mono ?_
              rintro e w3 ⟨rfl, hb⟩
              have hS3 := solo_next hb hS
              have e30 := cell_on hb e0
              have e31 := cell_on hb e1
              have hQ := hS3
              obtain ⟨c30, c31, c32, c33, c34, HBx⟩ := hQ
              clear hb HBx
              go_wp2_with fail
              refine ((HX _).out).mono ?_
              rintro e w4 ⟨rfl, hb⟩
              have hS4 := solo_next hb hS3
              have e40 := cell_on hb e30
              have e41 := cell_on hb e31
              have hQ := hS4
              obtain ⟨c40, c41, c42, c43, c44, HBx⟩ := hQ
              clear hb HBx
              go_wp2_with fail
              refine bodyPost_ret (v := .tuple #[.agg #[.int .i64 0, .int .i64 0], .bool false]) (by simp [*, results, Tryd.results30, go_sem]) rfl ⟨rfl, ?_⟩
              exact (hS4.2.2.2.2.2.setCell (Nat.le_refl _) _).setCell (Nat.le_refl _) _
          · have hres := HF.out.2 (fun h => hg h.1)
            subst hres
            have HG := Lib.hid (by simpa using hg : goodD T 16 = false)
            clear hg HF
            go_wp2_with fail
            refine ((goodS_calls _ _ _).mono fun e w' h => (HG.out ▸ h : _ ∧ _)).mono ?_
            rintro e w3 ⟨rfl, hb⟩
            have hS3 := solo_next hb hS
            have e30 := cell_on hb e0
            have e31 := cell_on hb e1
            have hQ := hS3
            obtain ⟨c30, c31, c32, c33, c34, HBx⟩ := hQ
            clear hb HBx
            go_wp2_with fail
            refine bodyPost_ret (v := .tuple #[.agg #[.int .i64 0, .int .i64 0], .bool false]) (by simp [*, results, Tryd.results30, go_sem]) rfl ⟨rfl, ?_⟩
            exact (hS3.2.2.2.2.2.setCell (Nat.le_refl _) _).setCell (Nat.le_refl _) _
    · clear HCL
      go_wp2_with fail
      refine (HD _).out.mono ?_
      rintro e w2 ⟨rfl, rfl⟩
      go_wp2_with fail
      have HF := HF 0 (fun _ => rfl) (fun q hq => absurd (List.getElem?_eq_some_iff.1 hq).1 (by rw [← HN.out]; exact hn1))
      have hS := solo_alloc (o := .cells #[.int .i64 T, .int .i64 0] 25) hP1
      have e0 : (w1.alloc (.cells #[.int .i64 T, .int .i64 0] 25)).cell? ⟨w1.heap.size, 0, none⟩ = some (.int .i64 T) := by simp
      have e1 : (w1.alloc (.cells #[.int .i64 T, .int .i64 0] 25)).cell? ⟨w1.heap.size, 1, none⟩ = some (.int .i64 0) := by simp
      generalize w1.alloc (.cells #[.int .i64 T, .int .i64 0] 25) = WW at hS e0 e1 ⊢
      by_cases hg : goodD T 0 = true
      · by_cases ht : textD T 0 = s.data.toList
        · have hres := HF.out.1 hg ht
          subst hres
          have he := bt_eq ht
          obtain ⟨b1, b2, b3, b4, _⟩ := goodD_iff.1 hg
          have HX : ∀ W, Hid (Calls Tryd.prog 56 #[.agg #[.int .i64 T, .int .i64 0]] W fun e w' => e = .returned (.string (bt (textD T 0))) ∧ Below W.heap.size W w') := fun W => Lib.hid (textS_any T 0 W b1 b2 (by omega))
          have HG := Lib.hid hg
          clear hg ht HF b1 b2 b3 b4
          generalize bt (textD T 0) = tx at he HX
          go_wp2_with fail
          refine ((goodS_calls _ _ _).mono fun e w' h => (HG.out ▸ h : _ ∧ _)).mono ?_
          rintro e w3 ⟨rfl, hb⟩
          have hS3 := solo_next hb hS
          have e30 := cell_on hb e0
          have e31 := cell_on hb e1
          have hQ := hS3
          obtain ⟨c30, c31, c32, c33, c34, HBx⟩ := hQ
          clear hb HBx
          go_wp2_with fail
          refine ((HX _).out).mono ?_
          rintro e w4 ⟨rfl, hb⟩
          have hS4 := solo_next hb hS3
          have e40 := cell_on hb e30
          have e41 := cell_on hb e31
          have hQ := hS4
          obtain ⟨c40, c41, c42, c43, c44, HBx⟩ := hQ
          clear hb HBx
          go_wp2_with fail
          refine bodyPost_ret (v := .tuple #[.agg #[.int .i64 T, .int .i64 0], .bool true]) (by simp [*, results, Tryd.results30, go_sem]) rfl ⟨rfl, ?_⟩
          exact (hS4.2.2.2.2.2.setCell (Nat.le_refl _) _).setCell (Nat.le_refl _) _
        · have hres := HF.out.2 (fun h => ht h.2)
          subst hres
          have he := bt_ne ht
          obtain ⟨b1, b2, b3, b4, _⟩ := goodD_iff.1 hg
          have HX : ∀ W, Hid (Calls Tryd.prog 56 #[.agg #[.int .i64 T, .int .i64 0]] W fun e w' => e = .returned (.string (bt (textD T 0))) ∧ Below W.heap.size W w') := fun W => Lib.hid (textS_any T 0 W b1 b2 (by omega))
          have HG := Lib.hid hg
          clear hg ht HF b1 b2 b3 b4
          generalize bt (textD T 0) = tx at he HX
          go_wp2_with fail
          refine ((goodS_calls _ _ _).mono fun e w' h => (HG.out ▸ h : _ ∧ _)).mono ?_
          rintro e w3 ⟨rfl, hb⟩
          have hS3 := solo_next hb hS
          have e30 := cell_on hb e0
          have e31 := cell_on hb e1
          have hQ := hS3
          obtain ⟨c30, c31, c32, c33, c34, HBx⟩ := hQ
          clear hb HBx
          go_wp2_with fail
          refine ((HX _).out).mono ?_
          rintro e w4 ⟨rfl, hb⟩
          have hS4 := solo_next hb hS3
          have e40 := cell_on hb e30
          have e41 := cell_on hb e31
          have hQ := hS4
          obtain ⟨c40, c41, c42, c43, c44, HBx⟩ := hQ
          clear hb HBx
          go_wp2_with fail
          refine bodyPost_ret (v := .tuple #[.agg #[.int .i64 0, .int .i64 0], .bool false]) (by simp [*, results, Tryd.results30, go_sem]) rfl ⟨rfl, ?_⟩
          exact (hS4.2.2.2.2.2.setCell (Nat.le_refl _) _).setCell (Nat.le_refl _) _
      · have hres := HF.out.2 (fun h => hg h.1)
        subst hres
        have HG := Lib.hid (by simpa using hg : goodD T 0 = false)
        clear hg HF
        go_wp2_with fail
        refine ((goodS_calls _ _ _).mono fun e w' h => (HG.out ▸ h : _ ∧ _)).mono ?_
        rintro e w3 ⟨rfl, hb⟩
        have hS3 := solo_next hb hS
        have e30 := cell_on hb e0
        have e31 := cell_on hb e1
        have hQ := hS3
        obtain ⟨c30, c31, c32, c33, c34, HBx⟩ := hQ
        clear hb HBx
        go_wp2_with fail
        refine bodyPost_ret (v := .tuple #[.agg #[.int .i64 0, .int .i64 0], .bool false]) (by simp [*, results, Tryd.results30, go_sem]) rfl ⟨rfl, ?_⟩
        exact (hS3.2.2.2.2.2.setCell (Nat.le_refl _) _).setCell (Nat.le_refl _) _

theorem readS_any (s : ByteArray) (r : Int × Int × Bool) (w : World) (hs : s.size ≤ 1048576) (hr : ReadsD s.data.toList r) : Calls Tryd.prog 30 #[.string s] w fun e w' => e = .returned (.tuple #[.agg #[.int .i64 r.1, .int .i64 r.2.1], .bool r.2.2]) ∧ Below w.heap.size w w' := by
  refine readS_core s (bt (preL s.data.toList 47)) (topD (preL s.data.toList 47)) r w hs ?_ (Lib.hid (spAll_head s 47)) rfl (fun K h1 h2 => Lib.hid ?_)
  · refine bt_len (Nat.le_trans (preL_le _ _) ?_)
    simpa using hs
  · exact spec_final hr (fun t p hg ht => spec_uniq hg ht h1 h2)

end Go.Proofs.YtlblkmhiildgeaaDoor
