/- impl.ReadNum reads a numeral within bounds, and nothing else. -/
import Derived.Test.YtjildaahoclojaaDoorReadS
import Derived.Test.YtjildaahoclojaaDoorWNumText
import Derived.Test.YtjildaahoclojaaDoorShelf
import Derived.Lib.AtoiErrMem
namespace Go.Proofs.YtjildaahoclojaaDoor
open Go.RowKit

/-- the two errors of strconv hold an error each -/
def ErrVars (w : World) : Prop :=
  (∃ tp p, w.var? Tryd.prog "strconv.ErrSyntax" = some #[.iface tp p]) ∧ (∃ tp p, w.var? Tryd.prog "strconv.ErrRange" = some #[.iface tp p])

/-- strconv.Atoi: the number, or an error. -/
theorem atoi_ok (s : ByteArray) (v : Int) (w : World) (hs : s.size ≤ 1048576) (h : Lib.atoiAll s.data.toList = .ok v) :
    Calls Tryd.prog 42 #[.string s] w fun e w' => e = .returned (.tuple #[.int .i64 v, .nilIface]) ∧ Below w.heap.size w w' := by
  refine (Tryd.strconv_Atoi_ok s (by omega) v h w).mono ?_
  rintro e w' ⟨he, hw⟩
  refine ⟨he, ?_⟩
  rcases hw with rfl | ⟨t, rfl⟩
  · exact Below.refl _ _
  · exact Lib.bytesWorld_below _ _ _

theorem atoi_no (s : ByteArray) (w : World) (hs : s.size ≤ 1048576) (hv : ErrVars w) (h : ∀ v, Lib.atoiAll s.data.toList ≠ .ok v) :
    Calls Tryd.prog 42 #[.string s] w fun e w' => ∃ n t N, e = .returned (.tuple #[.int .i64 n, .iface t (.pointer (some ⟨N, 0, none⟩))]) ∧ Below w.heap.size w w' := by
  obtain ⟨⟨t1, p1, h1⟩, ⟨t2, p2, h2⟩⟩ := hv
  match hc : Lib.atoiAll s.data.toList with
  | .ok v => exact absurd hc (h v)
  | .syntax =>
    refine (Tryd.strconv_Atoi_syntax_var s (by omega) hc t1 p1 w h1).mono ?_
    rintro e w' ⟨N, he, _, _, hb⟩
    exact ⟨_, _, N, he, hb⟩
  | .range =>
    refine (Tryd.strconv_Atoi_range_var s (by omega) hc t2 p2 w h2).mono ?_
    rintro e w' ⟨N, he, _, _, hb⟩
    exact ⟨_, _, N, he, hb⟩

theorem readTo_none {l : List UInt8} (h : ∀ n, -999999 ≤ n → n ≤ 999999 → Lib.atoiAll l ≠ .ok n) : ReadTo l (.returned (.tuple #[.int .i64 0, .bool false])) :=
  Or.inr ⟨fun n h1 h2 e => h n h1 h2 (by rw [← e]; exact atoi_itoa n h1 h2), rfl⟩

theorem readTo_out {l : List UInt8} {v : Int} (h : Lib.atoiAll l = .ok v) (hv : ¬ (-999999 ≤ v ∧ v ≤ 999999 ∧ Lib.itoa v = l)) : ReadTo l (.returned (.tuple #[.int .i64 0, .bool false])) := by
  refine Or.inr ⟨fun n h1 h2 e => hv ?_, rfl⟩
  have := atoi_itoa n h1 h2
  rw [e, h] at this
  injection this with hn
  subst hn
  exact ⟨h1, h2, e⟩

set_option maxHeartbeats 1000000 in
theorem readNumI_calls (s : ByteArray) (w : World) (hs : s.size ≤ 1048576) (hv : ErrVars w) (hg : Tryd.prog.globalNamed "internal/strconv.uint64pow10" = some 3) (hlt : 3 < w.heap.size)
    (htab : Lib.TabIs Tryd.prog w "internal/strconv.uint64pow10" .u64 Lib.pow10Tab) :
    Calls Tryd.prog 15 #[.string s] w fun e w' => ReadTo s.data.toList e ∧ Below w.heap.size w w' := by
  by_cases h : ∃ v, Lib.atoiAll s.data.toList = .ok v
  · obtain ⟨v, h⟩ := h
    have HA := Lib.hid (atoi_ok s v w hs h)
    have HT := Lib.hid htab
    by_cases hr : v < -999999 ∨ 999999 < v
    · have HO := Lib.hid (readTo_out h (fun hh => by omega))
      have HN : ∀ W, Hid (Calls Tryd.prog 12 #[.int .i64 v] W fun e w' => e = .returned (.tuple #[.string ⟨#[]⟩, .bool false]) ∧ W = w') := fun W => Lib.hid (numTextI_out v W hr)
      clear hv h hr htab hg hlt
      go_enter Tryd.func15, Tryd.ntmps15
      go_wp2_with fail
      refine HA.out.mono ?_
      rintro e w1 ⟨rfl, hb⟩
      have HB := Lib.hid hb
      clear hb
      go_wp2_with fail
      refine (HN _).out.mono ?_
      rintro e w2 ⟨rfl, rfl⟩
      go_wp2_with fail
      go_ret2
      exact ⟨HO.out, HB.out⟩
    · have h1 : -999999 ≤ v := by omega
      have h2 : v ≤ 999999 := by omega
      have HN : ∀ W, Below w.heap.size w W → Hid (Calls Tryd.prog 12 #[.int .i64 v] W fun e w' => e = .returned (.tuple #[.string ⟨(Lib.itoa v).toArray⟩, .bool true]) ∧ Below W.heap.size W w') := fun W hb =>
        Lib.hid (numTextI_in v W h1 h2 (tabIs_below hg hlt hb htab))
      by_cases he : Lib.itoa v = s.data.toList
      · have HO : Hid (ReadTo s.data.toList (.returned (.tuple #[.int .i64 v, .bool true]))) := Lib.hid (Or.inl ⟨v, h1, h2, he, rfl⟩)
        have heq : ((⟨(Lib.itoa v).toArray⟩ : ByteArray).toList == s.toList) = true := str_eq (by rw [he])
        generalize (⟨(Lib.itoa v).toArray⟩ : ByteArray) = q at heq HN
        clear hv h hr htab hg hlt he h1 h2
        go_enter Tryd.func15, Tryd.ntmps15
        go_wp2_with fail
        refine HA.out.mono ?_
        rintro e w1 ⟨rfl, hb⟩
        have HB := Lib.hid hb
        clear hb
        go_wp2_with fail
        refine (HN _ HB.out).out.mono ?_
        rintro e w2 ⟨rfl, hb2⟩
        have HB2 := Lib.hid hb2
        clear hb2
        go_wp2_with fail
        go_ret2
        exact ⟨HO.out, HB.out.trans (HB2.out.mono HB.out.size)⟩
      · have HO := Lib.hid (readTo_out h (fun hh => he hh.2.2))
        have heq : ((⟨(Lib.itoa v).toArray⟩ : ByteArray).toList == s.toList) = false := str_ne (fun e => he (by have := congrArg (fun b : ByteArray => b.data.toList) e; simpa using this))
        generalize (⟨(Lib.itoa v).toArray⟩ : ByteArray) = q at heq HN
        clear hv h hr htab hg hlt he h1 h2
        go_enter Tryd.func15, Tryd.ntmps15
        go_wp2_with fail
        refine HA.out.mono ?_
        rintro e w1 ⟨rfl, hb⟩
        have HB := Lib.hid hb
        clear hb
        go_wp2_with fail
        refine (HN _ HB.out).out.mono ?_
        rintro e w2 ⟨rfl, hb2⟩
        have HB2 := Lib.hid hb2
        clear hb2
        go_wp2_with fail
        go_ret2
        exact ⟨HO.out, HB.out.trans (HB2.out.mono HB.out.size)⟩
  · have HA := Lib.hid (atoi_no s w hs hv (fun v hv => h ⟨v, hv⟩))
    have HO := Lib.hid (readTo_none (l := s.data.toList) (fun n _ _ hn => h ⟨n, hn⟩))
    clear hv h htab hg hlt
    go_enter Tryd.func15, Tryd.ntmps15
    go_wp2_with fail
    refine HA.out.mono ?_
    rintro e w1 ⟨n, t, N, rfl, hb⟩
    have HB := Lib.hid hb
    clear hb
    go_wp2_with fail
    go_ret2
    exact ⟨HO.out, HB.out⟩

end Go.Proofs.YtjildaahoclojaaDoor
