/- impl.joinable: no string holds the byte, and together with the bytes between they fit. -/
import Derived.Test.YtjildaahoclojaaDoorJoinMath
import Derived.Test.YtjildaahoclojaaDoorJoinS
import Derived.Deep.LoopGhost
import Derived.WalkMore
namespace Go.Proofs.YtjildaahoclojaaDoor
open Go.RowKit

def Fits (l : List ByteArray) (b : UInt8) : Prop := noneHas l b ∧ sumSz l + (l.length - 1) ≤ 4000

set_option maxHeartbeats 1000000 in
theorem joinable_calls (g c : Nat) (l : List ByteArray) (b : UInt8) (w : World) (h0 : 0 < l.length) (hl : l.length ≤ 1048576) (hx : ∀ x ∈ l, x.size ≤ 1048576) (h : StrsAt0 w g l) (v : Bool) (hv : v = true ↔ Fits l b) :
    Calls Tryd.prog 52 #[.slice (some ⟨g, 0, none⟩) l.length c, .int .u8 b.toNat] w fun e w' => e = .returned (.bool v) ∧ w = w' := by
  have H := Lib.hid h
  have HX := Lib.hid hx
  have HV := Lib.hid hv
  clear h hx hv
  go_enter Tryd.func52, Tryd.ntmps52
  go_wp2
  go_step3
  go_wp2
  go_step3
  go_wp2
  go_loopg [5, 6, 16] l.length (fun n r p i wr => ∃ (k : Nat) (m : Int), k ≤ l.length ∧ n + k = l.length ∧ i = .int .i64 k ∧ p = .int .i64 k ∧ r = .int .i64 m ∧ m ≤ 4000 ∧ -1048576 ≤ m ∧ (0 < k → 0 ≤ m) ∧ Hid (m = 4000 - ((l.length - 1 : Nat) : Int) - (sumSz (l.take k) : Int)) ∧ Hid (noneHas (l.take k) b) ∧ w = wr)
  case atStart => exact ⟨0, _, by omega, by omega, rfl, rfl, rfl, by omega, by omega, fun h => by omega, Lib.hid (by simp [sumSz]; omega), Lib.hid (fun x hx => by simp at hx), rfl⟩
  case round =>
    obtain ⟨k, m, hk, hgk, rfl, rfl, rfl, hm0, hm1, hmp, hm, hn, rfl⟩ := hrel
    by_cases hlt : k < l.length
    · obtain ⟨n0, rfl⟩ : ∃ n0, gk = n0 + 1 := ⟨gk - 1, by omega⟩
      have hc := H.out k l[k] (List.getElem?_eq_getElem hlt)
      have hxs := HX.out l[k] (List.getElem_mem hlt)
      have hmem : Hid (l[k] ∈ l) := Lib.hid (List.getElem_mem hlt)
      have hs : Hid (sumSz (l.take (k + 1)) = sumSz (l.take k) + l[k].size) := by rw [takeS_snoc l k hlt, sumSz_snoc]; exact Lib.hid rfl
      have hn2 : Hid (hasB l[k].data.toList b = false → noneHas (l.take (k + 1)) b) := Lib.hid (fun h3 => by
        rw [takeS_snoc l k hlt]
        intro x hx
        rcases List.mem_append.1 hx with h4 | h4
        · exact hn.out x h4
        · simp at h4; subst h4; exact h3)
      have hne : ((k : Int) == (l.length : Int)) = false := by rw [beq_eq_false_iff_ne]; omega
      have b0 : (0 : Int) ≤ k := by omega
      have b1 : (k : Int) < l.length := by omega
      generalize l[k] = x at hc hxs hs hn2 hmem
      clear hn
      by_cases hneg : m - (x.size : Int) < 0
      · have hvf : Hid (v = false) := Lib.hid (by
          have h1 := sumSz_le l (k + 1)
          have h2 := hm.out
          have h3 := hs.out
          have : ¬ v = true := fun hvt => by
            have := (HV.out.1 hvt).2
            omega
          simpa using this)
        clear hm hmp
        go_wp2
        try rw [Exit.noGoto_ret]
        go_ret
        exact ⟨ret_bool (by rw [hvf.out]), rfl⟩
      · clear hmp
        have hm2 : Hid (m - (x.size : Int) = 4000 - ((l.length - 1 : Nat) : Int) - (sumSz (l.take (k + 1)) : Int)) := Lib.hid (by have := hm.out; have := hs.out; omega)
        clear hm hs
        go_wp2
        go_loopg [28] x.size (fun n2 j wy => ∃ q : Nat, n2 + q = x.size ∧ j = .int .i64 q ∧ Hid (hasB (x.data.toList.take q) b = false) ∧ w = wy)
        case atStart => exact ⟨0, by omega, rfl, Lib.hid rfl, rfl⟩
        case round =>
          obtain ⟨q, hq, rfl, hno, rfl⟩ := hrel
          by_cases hql : q < x.size
          · obtain ⟨n1, rfl⟩ : ∃ n1, gk = n1 + 1 := ⟨gk - 1, by omega⟩
            by_cases hb : x[q] = b
            · have hvf : Hid (v = false) := Lib.hid (by
                have : ¬ v = true := fun hvt => by
                  have h3 := (HV.out.1 hvt).1 x hmem.out
                  have h4 : hasB x.data.toList b = true := by
                    unfold hasB
                    rw [List.contains_iff_mem, ← hb]
                    exact List.mem_of_getElem (l := x.data.toList) (i := q) (h := by simpa using hql) rfl
                  rw [h3] at h4
                  cases h4
                simpa using this)
              have he := byte_eq hb
              clear hb hno
              go_wp2
              try rw [Exit.noGoto_ret]
              go_ret
              exact ⟨ret_bool (by rw [hvf.out]), rfl⟩
            · have hno2 : Hid (hasB (x.data.toList.take (q + 1)) b = false) := Lib.hid (by
                have h0 := hno.out
                unfold hasB at h0 ⊢
                rw [take_snoc x q hql, List.contains_eq_any_beq, List.any_append, ← List.contains_eq_any_beq, h0]
                simp [Ne.symm hb])
              have he := byte_ne hb
              clear hb hno
              go_wp2
              go_roundg n1
              case measure => omega
              case rel => exact ⟨q + 1, by omega, by go_num, hno2, rfl⟩
          · have hn3 : Hid (noneHas (l.take (k + 1)) b) := Lib.hid (hn2.out (by
              have := hno.out
              rwa [show q = x.size from by omega, take_all] at this))
            clear hno
            go_wp2
            go_roundg n0
            case measure => omega
            case rel => exact ⟨k + 1, _, by omega, by omega, by go_num, by go_num, rfl, by omega, by omega, fun _ => by omega, hm2, hn3, rfl⟩
    · have hkl : k = l.length := by omega
      have hvt : Hid (v = true) := Lib.hid (HV.out.2 (by
        have h2 := hm.out
        have h3 := hn.out
        rw [hkl, List.take_length] at h2 h3
        exact ⟨h3, by have := hmp (by omega); omega⟩))
      have hne : ((k : Int) == (l.length : Int)) = true := by rw [beq_iff_eq]; omega
      clear hkl hm hn hmp
      go_wp2
      try rw [Exit.noGoto_ret]
      go_ret
      exact ⟨ret_bool (by rw [hvt.out]), rfl⟩

end Go.Proofs.YtjildaahoclojaaDoor
