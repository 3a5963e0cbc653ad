/- A draw of one game. -/
import Derived.Test.YtabfdaofikccmaaGreatDrAll
namespace Go.Proofs.YtabfdaofikccmaaGreat
open Go.RowKit
set_option linter.unusedVariables false
set_option linter.unusedSimpArgs false

set_option maxHeartbeats 1000000 in
theorem drawNeg_calls (ao : Option Addr) (n cc : Nat) (w : World) (hc : CodeIn w (.slice ao n cc) n) (hn : n ≤ 1000000) :
    Calls Tryz.prog 19 #[.slice ao n cc] w (DrawPost w) := by
  have hal : Below w.heap.size w (w.alloc (.cells #[.slice none 0 0] 26)) := (Below.refl _ _).alloc (Nat.le_refl _) _
  have hzA : (w.alloc (.cells #[.slice none 0 0] 26)).heap.size = w.heap.size + 1 := by simp
  have hx0 : BoxAt (w.alloc (.cells #[.slice none 0 0] 26)) w.heap.size (.slice none 0 0) := ⟨by go_simp, by go_simp⟩
  have hb2 : Below (w.heap.size + 1) (w.alloc (.cells #[.slice none 0 0] 26)) ((w.alloc (.cells #[.slice none 0 0] 26)).alloc (.cells #[.slice ao n cc, .int .i64 0, .int .u64 0] 75)) := (Below.refl _ _).alloc (by omega) _
  have hzB : ((w.alloc (.cells #[.slice none 0 0] 26)).alloc (.cells #[.slice ao n cc, .int .i64 0, .int .u64 0] 75)).heap.size = w.heap.size + 2 := by simp
  have C := any_draw (w.alloc (.cells #[.slice none 0 0] 26)) ((w.alloc (.cells #[.slice none 0 0] 26)).alloc (.cells #[.slice ao n cc, .int .i64 0, .int .u64 0] 75)) (w.alloc (.cells #[.slice none 0 0] 26)).heap.size n 0 (.slice ao n cc) (hc.below hal) hn (cur_new _ _) 4 (by omega) (by omega)
  rw [hzA] at C
  have C := Lib.hid C
  have HX := Lib.hid (hx0.below (by rw [hzA]; exact hb2))
  have HB := Lib.hid (hal.trans (hb2.mono (by omega)))
  clear hc hal hx0 hb2
  go_enter Tryz.func19, Tryz.ntmps19
  go_wp2_with fail
  refine C.out.mono ?_
  rintro e w1 ⟨a, c, f, rfl, hz, hl, _, ho⟩
  obtain ⟨d1, z1⟩ := HX.out.only ho (by omega)
  have hs1 := ho.size
  rw [hzB] at hs1 hz
  have hset : Only w1 (w1.setCell ⟨w.heap.size, 0, none⟩ (.slice a f.length c)) (fun b => b = w.heap.size) := Only.of_set (F := fun b => b = w.heap.size) _ rfl
  have HZ : Hid (NodesZ (w1.setCell ⟨w.heap.size, 0, none⟩ (.slice a f.length c)) w.heap.size (w1.setCell ⟨w.heap.size, 0, none⟩ (.slice a f.length c)).heap.size (.slice a f.length c) f) := Lib.hid ((hz.keep (fun b o h1 h2 => hset.cell h2 (by omega))).wide (by omega) (by simp))
  have HBE : Hid (Below w.heap.size w (w1.setCell ⟨w.heap.size, 0, none⟩ (.slice a f.length c))) := Lib.hid ((HB.out.trans (ho.below (by rw [hzB]; omega) (fun g e => by omega))).setCell (Nat.le_refl _) _)
  have hcr := World.cell?_setCell_same w1 ⟨w.heap.size, 0, none⟩ (.slice a f.length c) d1
  clear hz ho hset C HX HB
  go_wp2_with fail
  exact bodyPost_ret (v := .agg #[.slice a f.length c]) (by simp [results, Tryz.results19, go_sem, hcr]) rfl ⟨a, c, f, rfl, HZ.out, hl, HBE.out⟩

end Go.Proofs.YtabfdaofikccmaaGreat
