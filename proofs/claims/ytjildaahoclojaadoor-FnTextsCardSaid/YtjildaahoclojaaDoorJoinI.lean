/- impl.JoinTexts. -/
import Derived.Test.YtjildaahoclojaaDoorJoinable
import Derived.Test.YtjildaahoclojaaDoorShelf
namespace Go.Proofs.YtjildaahoclojaaDoor
open Go.RowKit

theorem joinAll (l : List ByteArray) (b : UInt8) : Lib.join (l.map (·.data.toList)) (⟨#[b]⟩ : ByteArray).data.toList = jnL l b l.length := by
  unfold jnL dat
  rw [List.take_length]

set_option maxHeartbeats 1000000 in
theorem joinI_calls (g c : Nat) (l : List ByteArray) (t : ByteArray) (w : World) (hc : l.length ≤ c) (ht : t.size ≤ 1048576) (hl : l.length ≤ 1048576) (hx : ∀ x ∈ l, x.size ≤ 1048576) (hg : g < w.heap.size) (h : StrsAt0 w g l) :
    Calls Tryd.prog 26 #[.slice (some ⟨g, 0, none⟩) l.length c, .string t] w fun e w' => JoinTo l t e ∧ Below w.heap.size w w' := by
  by_cases h0 : 0 < l.length
  · have hne : ((l.length : Int) == 0) = false := by rw [beq_eq_false_iff_ne]; omega
    by_cases h1 : t.size = 1
    · obtain ⟨b, rfl⟩ := one_byte h1
      obtain ⟨v, hv⟩ : ∃ v : Bool, v = true ↔ Fits l b := by
        by_cases hf : Fits l b
        · exact ⟨true, by simp [hf]⟩
        · exact ⟨false, by simp [hf]⟩
      have HC : Hid (Calls Tryd.prog 52 #[.slice (some ⟨g, 0, none⟩) l.length c, .int .u8 b.toNat] w fun e w' => e = .returned (.bool v) ∧ w = w') := Lib.hid (joinable_calls g c l b w h0 hl hx h v hv)
      have hlen := jnL_len l b l.length h0 (Nat.le_refl _)
      rw [List.take_length] at hlen
      cases v
      · have HJ : Hid (JoinTo l ⟨#[b]⟩ (.returned (.tuple #[.string ⟨#[]⟩, .bool false]))) := Lib.hid (Or.inr ⟨(fun ⟨c, hc, _, hn, hl4⟩ => by
          obtain rfl := mk_inj hc
          have : false = true := hv.2 ⟨hn, by omega⟩
          cases this), rfl⟩)
        clear h hx hv h1 ht hlen
        go_enter Tryd.func26, Tryd.ntmps26
        go_wp2_with fail
        refine HC.out.mono ?_
        rintro e w1 ⟨rfl, rfl⟩
        go_wp2_with fail
        go_ret2
        exact ⟨HJ.out, Below.refl _ _⟩
      · obtain ⟨hn, hs⟩ := hv.1 rfl
        have hj4 : (jnL l b l.length).length ≤ 4000 := by omega
        have HJ := Lib.hid (joinTo_yes h0 hn hj4)
        have HS : Hid (Calls Tryd.prog 53 #[.slice (some ⟨g, 0, none⟩) l.length c, .string ⟨#[b]⟩] w fun e w' => e = .returned (.string ⟨(jnL l b l.length).toArray⟩) ∧ Below w.heap.size w w') := by
          have := Tryd.strings_Join g 0 c l ⟨#[b]⟩ w (fun j x hj => by rw [Nat.zero_add]; exact h j x hj) hg (by omega) hc (by rw [joinAll]; omega)
          rw [joinAll] at this
          exact Lib.hid this
        generalize (⟨(jnL l b l.length).toArray⟩ : ByteArray) = q at HJ HS
        clear h hx hv h1 ht hlen hn hs hj4
        go_enter Tryd.func26, Tryd.ntmps26
        go_wp2_with fail
        refine HC.out.mono ?_
        rintro e w1 ⟨rfl, rfl⟩
        go_wp2_with fail
        refine HS.out.mono ?_
        rintro e w1 ⟨rfl, hb⟩
        have HB := Lib.hid hb
        clear hb
        go_wp2_with fail
        go_ret2
        exact ⟨HJ.out, HB.out⟩
    · have hte : ((t.size : Int) != 1) = true := by rw [bne_iff_ne]; omega
      have hte2 : ((t.size : Int) == 1) = false := by rw [beq_eq_false_iff_ne]; omega
      have HJ := Lib.hid (joinTo_size (l := l) h1)
      clear h hx h1
      go_enter Tryd.func26, Tryd.ntmps26
      go_wp2_with fail
      go_ret2
      exact ⟨HJ.out, Below.refl _ _⟩
  · have hln : l = [] := by
      apply List.eq_nil_of_length_eq_zero
      omega
    subst hln
    clear h hx h0
    go_enter Tryd.func26, Tryd.ntmps26
    go_wp2_with fail
    go_ret2
    exact ⟨joinTo_nil, Below.refl _ _⟩

end Go.Proofs.YtjildaahoclojaaDoor
