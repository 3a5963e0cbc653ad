/- spec.JoinTexts. -/
import Derived.Test.YtjildaahoclojaaDoorJoinMath
import Derived.Test.YtjildaahoclojaaDoorStands
import Derived.Laws.Concat
import Derived.Deep.QuietTactic
import Derived.BigQuiet
namespace Go.Proofs.YtjildaahoclojaaDoor
open Go.RowKit

theorem stands_v (s : ByteArray) (b : UInt8) (w : World) (hs : s.size ≤ 1048576) (v : Bool) (h : hasB s.data.toList b = v) :
    Calls Tryd.prog 47 #[.string s, .int .u8 b.toNat] w fun e w' => e = .returned (.bool v) ∧ w' = w := by
  have := l1Stands_calls s b w (by unfold maxLen; omega)
  rw [h] at this
  exact this.mono fun _ _ ⟨h1, h2⟩ => ⟨h1, h2.symm⟩

/-- block g begins with these strings -/
def StrsAt0 (w : World) (g : Nat) (l : List ByteArray) : Prop := ∀ j x, l[j]? = some x → w.cell? ⟨g, j, none⟩ = some (.string x)

set_option maxHeartbeats 1000000 in
theorem joinS_calls (g c : Nat) (l : List ByteArray) (t : ByteArray) (w : World) (ht : t.size ≤ 1048576) (hl : l.length ≤ 1048576) (hx : ∀ x ∈ l, x.size ≤ 1048576) (h : StrsAt0 w g l) :
    Calls Tryd.prog 27 #[.slice (some ⟨g, 0, none⟩) l.length c, .string t] w fun e w' => JoinTo l t e ∧ ∃ m, w' = w.drewN m := by
  by_cases h1 : t.size = 1
  · obtain ⟨b, rfl⟩ := one_byte h1
    by_cases h0 : 0 < l.length
    · have H := Lib.hid h
      have HX := Lib.hid hx
      have hne : ((l.length : Int) == 0) = false := by rw [beq_eq_false_iff_ne]; omega
      clear h hx h1 ht
      go_enter Tryd.func27, Tryd.ntmps27
      go_wp2
      go_loopw [6, 7] (fun o i wr => ∃ (k : Nat) (s : ByteArray), k ≤ l.length ∧ i = .int .i64 k ∧ o = .string s ∧ s.size ≤ 4000 ∧ Hid (s.data.toList = jnL l b k) ∧ Hid (noneHas (l.take k) b) ∧ Hid (∃ m, wr = w.drewN m)) (fun _ i _ => l.length - (intOf i).toNat)
      case atStart => exact ⟨0, ⟨#[]⟩, Nat.zero_le _, rfl, rfl, by decide, Lib.hid rfl, Lib.hid (fun x hx => by simp at hx), Lib.hid ⟨0, rfl⟩⟩
      case round =>
        obtain ⟨k, s, hk, rfl, rfl, hs, hj, hn, hw⟩ := hrel
        by_cases hlt : k < l.length
        · have hc : wr.cell? ⟨g, k, none⟩ = some (.string l[k]) := by
            obtain ⟨m, rfl⟩ := hw.out
            exact H.out k l[k] (List.getElem?_eq_getElem hlt)
          have hxs := HX.out l[k] (List.getElem_mem hlt)
          obtain ⟨v, hv⟩ : ∃ v, hasB l[k].data.toList b = v := ⟨_, rfl⟩
          have HC : ∀ W : World, Hid (Calls Tryd.prog 47 #[.string l[k], .int .u8 b.toNat] W fun e w' => e = .returned (.bool v) ∧ w' = W) := fun W => Lib.hid (stands_v l[k] b W hxs v hv)
          have b0 : (0 : Int) ≤ k := by omega
          have b1 : (k : Int) < l.length := by omega
          cases v
          · have hn2 : Hid (noneHas (l.take (k + 1)) b) := by
              rw [takeS_snoc l k hlt]
              refine Lib.hid fun x hx => ?_
              rcases List.mem_append.1 hx with h3 | h3
              · exact hn.out x h3
              · simp at h3; subst h3; exact hv
            have hL : Hid (∀ q : ByteArray, q.data.toList = jnL l b (k + 1) → 4000 < q.size → JoinTo l ⟨#[b]⟩ (.returned (.tuple #[.string ⟨#[]⟩, .bool false]))) := Lib.hid fun q hq hq2 => by
              have h3 := jnL_mono l b (k + 1) (by omega) (by omega)
              have h4 : q.size = (jnL l b (k + 1)).length := by rw [← hq]; simp
              exact joinTo_long (by omega)
            by_cases hk0 : 0 < k
            · have hq : Hid ((s ++ (⟨#[b]⟩ : ByteArray) ++ l[k]).data.toList = jnL l b (k + 1)) := Lib.hid (by
                rw [jnL_succ l b k hlt hk0, ← hj.out]
                simp)
              generalize l[k] = x at hc hxs hv HC hq
              clear hv hn hj
              have hz : Hid ((s ++ (⟨#[b]⟩ : ByteArray) ++ x).size = s.size + 1 + x.size) := Lib.hid (by simp [ByteArray.size_append, ByteArray.size_mk'])
              by_cases hbig : 4000 < s.size + 1 + x.size
              · go_wp2_with fail
                go_quiet ((go_at_call 47; exact Calls.quiet_of_same (HC _).out))
                go_wp2
                go_ret2
                exact ⟨hL.out _ hq.out (by rw [hz.out]; exact hbig), by obtain ⟨m, rfl⟩ := hw.out; exact ⟨_, World.drewN_drewN _ _ _⟩⟩
              · go_wp2_with fail
                go_quiet ((go_at_call 47; exact Calls.quiet_of_same (HC _).out))
                go_wp2
                go_roundw
                case rel => exact ⟨k + 1, _, by omega, by go_num, rfl, by rw [hz.out]; omega, hq, hn2, Lib.hid (by obtain ⟨m, rfl⟩ := hw.out; exact ⟨_, World.drewN_drewN _ _ _⟩)⟩
                case measure => simp [intOf]; omega
            · have hk00 : k = 0 := by omega
              subst hk00
              have hse : Hid (s = ⟨#[]⟩) := Lib.hid (by
                have h3 := hj.out
                rw [jnL_zero] at h3
                apply ByteArray.ext
                exact Array.toList_inj.mp h3)
              have hq : Hid ((l[0]).data.toList = jnL l b (0 + 1)) := Lib.hid (jnL_one l b h0).symm
              have hq2 : Hid ((s ++ l[0]).data.toList = jnL l b (0 + 1)) := Lib.hid (by rw [hse.out, ← hq.out]; simp)
              generalize l[0] = x at hc hxs hv HC hq hq2
              have hz : Hid ((s ++ x).size = x.size) := Lib.hid (by rw [hse.out]; simp [ByteArray.size_append, ByteArray.size_mk'])
              have hz2 : Hid (s.size = 0) := Lib.hid (by rw [hse.out]; rfl)
              have hs0 : s.size ≤ 0 := by rw [hz2.out]; omega
              clear hv hn hj
              by_cases hbig : 4000 < s.size + x.size
              · go_wp2_with fail
                go_quiet ((go_at_call 47; exact Calls.quiet_of_same (HC _).out))
                go_wp2
                go_ret2
                exact ⟨hL.out _ hq2.out (by rw [hz.out]; have := hz2.out; omega), by obtain ⟨m, rfl⟩ := hw.out; exact ⟨_, World.drewN_drewN _ _ _⟩⟩
              · go_wp2_with fail
                go_quiet ((go_at_call 47; exact Calls.quiet_of_same (HC _).out))
                go_wp2
                go_roundw
                case rel => exact ⟨0 + 1, _, by omega, by go_num, rfl, by rw [hz.out]; omega, hq2, hn2, Lib.hid (by obtain ⟨m, rfl⟩ := hw.out; exact ⟨_, World.drewN_drewN _ _ _⟩)⟩
                case measure => simp [intOf]; omega
          · have HJ := Lib.hid (joinTo_has (List.getElem_mem hlt) hv)
            generalize l[k] = x at hc hxs hv HC
            clear hv hn hj
            go_wp2_with fail
            go_quiet ((go_at_call 47; exact Calls.quiet_of_same (HC _).out))
            go_wp2
            go_ret2
            exact ⟨HJ.out, by obtain ⟨m, rfl⟩ := hw.out; exact ⟨_, World.drewN_drewN _ _ _⟩⟩
        · have hkl : k = l.length := by omega
          subst hkl
          have HN : noneHas l b := by have := hn.out; rwa [List.take_length] at this
          have HY : Hid (JoinTo l ⟨#[b]⟩ (.returned (.tuple #[.string s, .bool true]))) := by
            have h3 : (jnL l b l.length).length ≤ 4000 := by rw [← hj.out]; simpa using hs
            have h4 := joinTo_yes h0 HN h3
            have h5 : (⟨(jnL l b l.length).toArray⟩ : ByteArray) = s := by rw [← hj.out]
            rw [h5] at h4
            exact Lib.hid h4
          clear hn hj HN
          go_wp2
          go_ret2
          exact ⟨HY.out, hw.out⟩
    · have hln : l = [] := by
        apply List.eq_nil_of_length_eq_zero
        omega
      subst hln
      clear h hx h1 ht h0
      go_enter Tryd.func27, Tryd.ntmps27
      go_wp2
      go_ret2
      exact ⟨joinTo_nil, 0, rfl⟩
  · have hne : ((t.size : Int) != 1) = true := by rw [bne_iff_ne]; omega
    have hne2 : ((t.size : Int) == 1) = false := by rw [beq_eq_false_iff_ne]; omega
    have HJ := Lib.hid (joinTo_size (l := l) h1)
    clear h hx h1
    go_enter Tryd.func27, Tryd.ntmps27
    go_wp2
    go_ret2
    exact ⟨HJ.out, 0, rfl⟩

end Go.Proofs.YtjildaahoclojaaDoor
