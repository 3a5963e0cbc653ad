/- The model's l3Join: some of some texts with commas between. -/
import Derived.Test.YthpibeogphcnhaaFmTextM
import Derived.Test.YthpibeogphcnhaaFmBkPut
import Derived.Laws.Concat
namespace Go.Proofs.Ythpibeogphcnhaa
set_option linter.unusedVariables false
set_option linter.unusedSimpArgs false
open Go.RowKit

/-- texts in a slice -/
def StrsIn (w : World) (lo hi : Nat) (v : Value) (T : List ByteArray) : Prop :=
  ∃ ao c, v = .slice ao T.length c ∧ ∀ (j : Nat) (x : ByteArray), T[j]? = some x → ∃ b off, ao = some ⟨b, off, none⟩ ∧ lo ≤ b ∧ b < hi ∧ w.cell? ⟨b, off + j, none⟩ = some (.string x)

theorem StrsIn.below {w w' : World} {lo hi B : Nat} {v : Value} {T : List ByteArray} (h : StrsIn w lo hi v T) (hb : Below B w w') (hB : hi ≤ B) : StrsIn w' lo hi v T := by
  obtain ⟨ao, c, h1, h2⟩ := h
  refine ⟨ao, c, h1, fun j x hx => ?_⟩
  obtain ⟨b, off, e1, e2, e3, e4⟩ := h2 j x hx
  exact ⟨b, off, e1, e2, e3, (bcell hb b _ (by omega)).trans e4⟩

def datT (T : List ByteArray) : List (List UInt8) := T.map (fun s => s.data.toList)
def optT (T : List ByteArray) (l : List Nat) : List (List UInt8) := l.map (fun x => (datT T).getD x [])

theorem optT_at {T : List ByteArray} {l : List Nat} {k x : Nat} {s : ByteArray} (h : l[k]? = some x) (hs : T[x]? = some s) : (optT T l)[k]? = some s.data.toList := by
  unfold optT datT
  rw [List.getElem?_map, h]
  simp [List.getD_eq_getElem?_getD, hs]

theorem bytes_app (a b : ByteArray) : (a ++ b).data.toList = a.data.toList ++ b.data.toList := by simp
theorem bytes_size (a : ByteArray) : a.size = a.data.toList.length := by simp

set_option maxRecDepth 20000 in
theorem jC_bound {T : List ByteArray} {l : List Nat} (hT : ∀ s ∈ T, s.size ≤ 4001) (hx : ∀ x ∈ l, x < T.length) (k : Nat) : (jC ((optT T l).take k)).length ≤ l.length * 4002 := by
  have h1 := jC_len ((optT T l).take k) 4001 (fun y hy => by
    have := List.mem_of_mem_take hy
    unfold optT at this
    obtain ⟨x, hxl, rfl⟩ := List.mem_map.1 this
    obtain ⟨s, hs⟩ := lt_get (hx x hxl)
    unfold datT
    rw [List.getD_eq_getElem?_getD, List.getElem?_map, hs]
    show s.data.toList.length ≤ 4001
    rw [← bytes_size]
    exact hT s (List.mem_of_getElem? hs))
  have h2 : ((optT T l).take k).length ≤ l.length := by unfold optT; simp; omega
  have := Nat.mul_le_mul_right 4002 h2
  omega

theorem str_of {s : ByteArray} {l : List UInt8} (h : s.data.toList = l) : s = ⟨l.toArray⟩ := by
  subst h
  apply ByteArray.ext
  simp

set_option maxHeartbeats 2000000 in
theorem l3Join_calls (vt v : Value) (T : List ByteArray) (l : List Nat) (w : World) (lo hi lo' hi' : Nat) (hT : StrsIn w lo hi vt T) (hv : IntsZ w lo' hi' v (upL l)) (hx : ∀ x ∈ l, x < T.length) (hs : ∀ s ∈ T, s.size ≤ 4001) (hl : l.length ≤ 1000) (hlT : T.length ≤ 1000000) :
    Calls Try.prog 104 #[vt, v] w fun e w' => e = .returned (.string ⟨(jC (optT T l)).toArray⟩) ∧ ∃ m, w' = w.drewN m := by
  have HB := Lib.hid fun k => jC_bound (T := T) (l := l) hs hx k
  have HT := Lib.hid hT
  have HV := Lib.hid hv
  have HS := Lib.hid hs
  have HX := Lib.hid hx
  obtain ⟨aoT, cT, rfl, _⟩ := hT
  obtain ⟨ao, c, rfl, hcap, _⟩ := hv
  have hlu : (upL l).length = l.length := by simp [upL]
  rw [hlu] at HV hcap ⊢
  clear hs hx hlu
  go_enter Try.func104, Try.ntmps104
  go_wp2
  go_loopw [5, 6] (fun o i wr => ∃ (k : Nat) (s : ByteArray), k ≤ l.length ∧ i = .int .i64 k ∧ o = .string s ∧ Hid (s.data.toList = jC ((optT T l).take k)) ∧ Hid (∃ m, wr = w.drewN m)) (fun _ i _ => l.length - (intOf i).toNat)
  case atStart => exact ⟨0, ⟨#[]⟩, Nat.zero_le _, rfl, rfl, Lib.hid (by rw [jC_zero]), Lib.hid ⟨0, rfl⟩⟩
  case round =>
    obtain ⟨k, s, hk, rfl, rfl, hj, hw⟩ := hrel
    by_cases hlt : k < l.length
    · obtain ⟨x, hx⟩ := lt_get hlt
      have hxT := HX.out x (List.mem_of_getElem? hx)
      obtain ⟨t, ht⟩ := lt_get hxT
      obtain ⟨ao1, c1, e1, _, hn⟩ := HV.out
      obtain ⟨b, off, hao, _, _, hc⟩ := hn k (x : Int) (by unfold upL; rw [List.getElem?_map, hx]; rfl)
      obtain ⟨ao2, c2, e2, hn2⟩ := HT.out
      obtain ⟨b2, off2, hao2, _, _, hc2⟩ := hn2 x t ht
      obtain ⟨q1, _, q2⟩ := slice_inj e1
      obtain ⟨q3, _, q4⟩ := slice_inj e2
      subst q1 q2 q3 q4 hao hao2
      clear hn hn2 e1 e2
      have d1 : wr.cell? ⟨b, off + k, none⟩ = some (.int .i64 (x : Int)) := by obtain ⟨m, rfl⟩ := hw.out; exact hc
      have d2 : wr.cell? ⟨b2, off2 + x, none⟩ = some (.string t) := by obtain ⟨m, rfl⟩ := hw.out; exact hc2
      have hts := HS.out t (List.mem_of_getElem? ht)
      have hss : s.size ≤ 4002000 := by
        have h1 := HB.out k
        rw [bytes_size, hj.out]
        have := Nat.mul_le_mul_right 4002 hl
        omega
      have b0 : (0 : Int) ≤ k := by omega
      have b1 : (k : Int) < l.length := by omega
      have b2' : (0 : Int) ≤ x := by omega
      have b3 : (x : Int) < T.length := by omega
      have HA := Lib.hid (optT_at hx ht)
      clear hx ht hc hc2
      by_cases h0 : 0 < k
      · have b4 : (0 : Int) < k := by omega
        have HQ : Hid ((s ++ (⟨#[44]⟩ : ByteArray) ++ t).data.toList = jC ((optT T l).take (k + 1))) := Lib.hid (by
          rw [jC_succ _ k _ HA.out h0, bytes_app, bytes_app, hj.out])
        clear hj
        go_wp2
        go_roundw
        case rel => exact ⟨k + 1, _, by omega, by go_num, rfl, HQ, Lib.hid (by obtain ⟨m, rfl⟩ := hw.out; first | exact ⟨_, World.drewN_drewN _ _ _⟩ | exact ⟨_, rfl⟩)⟩
        case measure => simp [intOf]; omega
      · have hk0 : k = 0 := by omega
        subst hk0
        simp only [Nat.add_zero] at d1
        have HQ : Hid ((s ++ t).data.toList = jC ((optT T l).take 1)) := Lib.hid (by
          rw [jC_one _ _ HA.out, bytes_app, hj.out, jC_zero]
          rfl)
        clear hj
        go_wp2
        go_roundw
        case rel => exact ⟨1, _, by omega, by go_num, rfl, HQ, Lib.hid (by obtain ⟨m, rfl⟩ := hw.out; first | exact ⟨_, World.drewN_drewN _ _ _⟩ | exact ⟨_, rfl⟩)⟩
        case measure => simp [intOf]; omega
    · have hke : k = l.length := by omega
      subst hke
      have b1 : ¬ (l.length : Int) < l.length := by omega
      have HE : Hid (s = ⟨(jC (optT T l)).toArray⟩) := Lib.hid (by
        refine str_of ?_
        rw [hj.out]
        have : (optT T l).take l.length = optT T l := List.take_of_length_le (by unfold optT; simp)
        rw [this])
      clear hj
      go_wp2
      go_ret
      exact ⟨by rw [HE.out]; rfl, hw.out⟩

end Go.Proofs.Ythpibeogphcnhaa
