/- Nodes, all of which the last one reaches: what the program's order makes of them is what the model's book makes. -/
import Derived.Test.YtabfdaofikccmaaInMath
import Derived.Test.YtabfdaofikccmaaFmGoodI
namespace Go.Proofs.Ytabfdaofikccmaa
set_option linter.unusedVariables false
set_option linter.unusedSimpArgs false
theorem down_up (out : List Nd) : (out.map upN).map downN = out := by
  rw [List.map_map]
  have : (downN ∘ upN) = id := funext fun nd => by
    show downN (upN nd) = nd
    unfold downN upN downL upL
    simp [List.map_map, Function.comp_def]
  rw [this, List.map_id]
theorem formM_canon (P : List Nd) (hu : Under P) (h0 : 0 < P.length) (hr : ∀ k, k < P.length → Reached P (P.length - 1) k) :
    (∃ pl, Canon P (bOf P) (fun _ => True) (formM P) pl) ∧ Struct (formM P) ∧ RisingBy (formM P) (bOf (formM P)) ∧ Used (formM P) := by
  have ha := addF_added [] book_nil P hu
  obtain ⟨nd, hnd⟩ := lt_get (l := P) (i := P.length - 1) (by omega)
  have hroot := get_lt (ha.node _ nd hnd)
  have hbu := ha.book.struct.under
  obtain ⟨pl, hc⟩ := formOf_canon P hu h0 _ (reachF_is (addF [] P).1 hbu _ hroot)
  have hb := births_bOf P hu
  have hbc := births_bOf _ hbu
  refine ⟨⟨_, canon_iff (hc.comp hu ha) fun k hk => ⟨fun _ => trivial, fun _ => added_reach ha (hr k hk)⟩⟩, hc.struct hbc Reached.shut hbu, ?_, canon_used hbu hroot hc⟩
  have hst := hc.struct hbc Reached.shut hbu
  have hri := hc.rising hbc Reached.shut hbu (births_bOf _ hst.under)
  exact fun k x y hx hy => hri k (k + 1) x y hx hy (by omega)
theorem order_is {P out : List Nd} {pl : Nat → Nat} (hu : Under P) (h0 : 0 < P.length) (hr : ∀ k, k < P.length → Reached P (P.length - 1) k) (h : Canon P (bOf P) (fun _ => True) out pl) : out = formM P := by
  obtain ⟨⟨pl', h'⟩, _⟩ := formM_canon P hu h0 hr
  exact (Canon.unique (births_bOf P hu) (fun _ _ _ _ _ _ => trivial) hu h h').1
/-- is it within the limits? -/
def fitsN (f : List Nd) : Bool := decide (0 < f.length) && (decide (f.length ≤ 120) && f.all (fun nd => decide (nd.1.length ≤ 24) && decide (nd.2.length ≤ 24)))
theorem fitsN_iff (f : List Nd) : fitsN f = true ↔ FitsZ (f.map upN) := by
  unfold fitsN FitsZ
  simp only [Bool.and_eq_true, decide_eq_true_eq, List.all_eq_true, List.length_map, List.mem_map, upN, upL]
  constructor
  · rintro ⟨h1, h2, h3⟩
    refine ⟨h1, h2, ?_⟩
    rintro nd ⟨x, hx, rfl⟩
    simpa using h3 x hx
  · rintro ⟨h1, h2, h3⟩
    refine ⟨h1, h2, fun x hx => ?_⟩
    simpa using h3 _ ⟨x, hx, rfl⟩
theorem structZ_up {out : List Nd} (h : Struct out) : StructZ (out.map upN) := by
  intro k nd hk
  rw [List.getElem?_map] at hk
  cases hx : out[k]? with
  | none => rw [hx] at hk; cases hk
  | some x =>
    rw [hx] at hk
    simp only [Option.map_some, Option.some.injEq] at hk
    subst hk
    obtain ⟨h1, h2, h3⟩ := h k x hx
    unfold upN upL RisesIn
    refine ⟨⟨?_, fun y hy => ?_⟩, ⟨?_, fun y hy => ?_⟩⟩
    · rw [List.pairwise_map]; exact h1.imp (fun h => by omega)
    · obtain ⟨z, hz, rfl⟩ := List.mem_map.1 hy
      have := h3 z (Or.inl hz); omega
    · rw [List.pairwise_map]; exact h2.imp (fun h => by omega)
    · obtain ⟨z, hz, rfl⟩ := List.mem_map.1 hy
      have := h3 z (Or.inr hz); omega
/-- the order of nodes is a good form where it is within the limits -/
theorem good_fits (P : List Nd) (hu : Under P) (h0 : 0 < P.length) (hr : ∀ k, k < P.length → Reached P (P.length - 1) k) : goodB ((formM P).map upN) = fitsN (formM P) := by
  obtain ⟨_, hs, hb, hus⟩ := formM_canon P hu h0 hr
  rw [Bool.eq_iff_iff, goodB_iff, fitsN_iff]
  constructor
  · exact fun h => h.1
  · intro h
    refine ⟨h, structZ_up hs, ?_, ?_⟩
    · rw [down_up]; exact hb
    · rw [down_up]; exact hus
/-- the form, if it is one -/
def outV (P : List Nd) : List Nz := if fitsN (formM P) then (formM P).map upN else []
theorem outV_yes {P : List Nd} (h : fitsN (formM P) = true) : outV P = (formM P).map upN := by unfold outV; rw [h]; rfl
theorem outV_no {P : List Nd} (h : fitsN (formM P) = false) : outV P = [] := by unfold outV; rw [h]; rfl
theorem reached_used {P : List Nd} (hu : Under P) (h : Used P) (k : Nat) (hk : k < P.length) : Reached P (P.length - 1) k := by
  have := used_reach hu h (P.length - 1 - k) (by omega)
  rwa [show P.length - 1 - (P.length - 1 - k) = k from by omega] at this

end Go.Proofs.Ytabfdaofikccmaa
