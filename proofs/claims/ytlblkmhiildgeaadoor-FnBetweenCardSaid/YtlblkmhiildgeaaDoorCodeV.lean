/- laws.vCut of a code that came in. -/
import Derived.Test.YtlblkmhiildgeaaDoorCodeIn
import Derived.Test.YtlblkmhiildgeaaDoorVCut
namespace Go.Proofs.YtlblkmhiildgeaaDoor
open Go.RowKit

theorem vCut_open {a : Addr} {len cap : Nat} {w : World} (hcode : CodeIn w (.slice (some a) len cap) len) (hl : len ≤ cap) (hm : cap ≤ maxLen) (hn : len ≤ 65536) (W : World) (hb : Below w.heap.size w W) :
    Calls Tryd.prog 23 #[.slice (some a) len cap, .int .i64 1] W fun e w' => (∃ g n' c', e = .returned (.slice (some ⟨g, 0, none⟩) n' c') ∧ n' ≤ 65537 ∧ CodeIn w' (.slice (some ⟨g, 0, none⟩) n' c') n') ∧ Below W.heap.size W w' := by
  unfold maxLen at hm
  rcases hcode.below hb with ⟨ao, c, he, h0⟩ | ⟨b, off, c, he, hp, hcell⟩
  · subst h0
    exact vCut_zero a cap W (by omega)
  · obtain ⟨rfl, rfl⟩ : a = ⟨b, off, none⟩ ∧ cap = c := by simpa using he
    by_cases h1 : len = 1
    · subst h1
      by_cases h2 : cap = 1
      · subst h2
        exact vCut_one1 b off W
      · exact vCut_one2 b off cap W (by omega) (by omega)
    · exact vCut_more b off len cap W hcell (by omega) hn hl (by omega)

end Go.Proofs.YtlblkmhiildgeaaDoor
