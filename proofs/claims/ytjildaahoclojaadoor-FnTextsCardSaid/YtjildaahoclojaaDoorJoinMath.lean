/- A list of strings put together with a byte between. -/
import Derived.Test.YtjildaahoclojaaDoorStrsBase
import Derived.Lib.Join
namespace Go.Proofs.YtjildaahoclojaaDoor

/-- the strings' bytes -/
def dat (l : List ByteArray) : List (List UInt8) := l.map (·.data.toList)
/-- the first k of them, put together -/
def jnL (l : List ByteArray) (b : UInt8) (k : Nat) : List UInt8 := Lib.join (dat (l.take k)) [b]

theorem jnL_zero (l : List ByteArray) (b : UInt8) : jnL l b 0 = [] := rfl

theorem jnL_one (l : List ByteArray) (b : UInt8) (h : 0 < l.length) : jnL l b 1 = l[0].data.toList := by
  unfold jnL dat
  rw [takeS_snoc l 0 h]
  simp [Lib.join_one]

theorem jnL_succ (l : List ByteArray) (b : UInt8) (k : Nat) (hk : k < l.length) (h0 : 0 < k) : jnL l b (k + 1) = jnL l b k ++ [b] ++ l[k].data.toList := by
  unfold jnL dat
  match l, k, h0 with
  | x :: r, k + 1, _ =>
    have hr : k < r.length := by simpa using hk
    have hy : (r.map (·.data.toList))[k]? = some r[k].data.toList := by rw [List.getElem?_map, List.getElem?_eq_getElem hr]; rfl
    have h := Lib.joinTail_take_succ [b] (r.map (·.data.toList)) k r[k].data.toList hy
    rw [List.take_succ_cons, List.take_succ_cons, List.map_cons, List.map_cons, Lib.join_cons, Lib.join_cons, List.map_take, List.map_take, h]
    simp

theorem lens_sum (l : List ByteArray) : Lib.lens (dat l) = sumSz l := by
  unfold dat sumSz
  induction l with
  | nil => rfl
  | cons x r ih =>
    simp only [List.map_cons, List.sum_cons]
    rw [← ih]
    simp [Lib.lens]

theorem jnL_len (l : List ByteArray) (b : UInt8) (k : Nat) (h0 : 0 < k) (hk : k ≤ l.length) : (jnL l b k).length = sumSz (l.take k) + (k - 1) := by
  unfold jnL
  have hl : (l.take k).length = k := by rw [List.length_take]; omega
  have hs := lens_sum (l.take k)
  match hm : l.take k with
  | [] => rw [hm] at hl; simp at hl; omega
  | x :: r =>
    rw [hm] at hl hs
    have hd : dat (x :: r) = x.data.toList :: dat r := rfl
    rw [hd] at hs ⊢
    rw [Lib.join_length, hs]
    simp [dat] at hl ⊢
    omega

theorem jnL_mono (l : List ByteArray) (b : UInt8) (k : Nat) (h0 : 0 < k) (hk : k ≤ l.length) : (jnL l b k).length ≤ (jnL l b l.length).length := by
  rw [jnL_len l b k h0 hk, jnL_len l b l.length (by omega) (Nat.le_refl _), List.take_length]
  have := sumSz_le l k
  omega

/-- a byte in none of the strings -/
def noneHas (l : List ByteArray) (b : UInt8) : Prop := ∀ x ∈ l, hasB x.data.toList b = false

/-- what both functions answer -/
def JoinTo (l : List ByteArray) (t : ByteArray) (e : Ending) : Prop :=
  (∃ b, t = ⟨#[b]⟩ ∧ 0 < l.length ∧ noneHas l b ∧ (jnL l b l.length).length ≤ 4000 ∧ e = .returned (.tuple #[.string ⟨(jnL l b l.length).toArray⟩, .bool true])) ∨
    (¬ (∃ b, t = ⟨#[b]⟩ ∧ 0 < l.length ∧ noneHas l b ∧ (jnL l b l.length).length ≤ 4000) ∧ e = .returned (.tuple #[.string ⟨#[]⟩, .bool false]))

theorem one_byte {t : ByteArray} (h : t.size = 1) : ∃ b, t = ⟨#[b]⟩ := by
  obtain ⟨⟨l⟩⟩ := t
  match l, h with
  | [x], _ => exact ⟨x, rfl⟩

theorem joinTo_size {l : List ByteArray} {t : ByteArray} (h : ¬ t.size = 1) : JoinTo l t (.returned (.tuple #[.string ⟨#[]⟩, .bool false])) :=
  Or.inr ⟨fun ⟨b, hb, _⟩ => h (by rw [hb]; rfl), rfl⟩
theorem joinTo_nil {t : ByteArray} : JoinTo [] t (.returned (.tuple #[.string ⟨#[]⟩, .bool false])) :=
  Or.inr ⟨fun ⟨b, _, h, _⟩ => by simp at h, rfl⟩
theorem mk_inj {b c : UInt8} (h : (⟨#[b]⟩ : ByteArray) = ⟨#[c]⟩) : b = c := by
  injection h with h
  simpa using h
theorem joinTo_has {l : List ByteArray} {b : UInt8} {x : ByteArray} (hx : x ∈ l) (h : hasB x.data.toList b = true) : JoinTo l ⟨#[b]⟩ (.returned (.tuple #[.string ⟨#[]⟩, .bool false])) :=
  Or.inr ⟨(fun ⟨c, hc, _, hn, _⟩ => by
    obtain rfl := mk_inj hc
    rw [hn x hx] at h
    cases h), rfl⟩
theorem joinTo_long {l : List ByteArray} {b : UInt8} (h : 4000 < (jnL l b l.length).length) : JoinTo l ⟨#[b]⟩ (.returned (.tuple #[.string ⟨#[]⟩, .bool false])) :=
  Or.inr ⟨(fun ⟨c, hc, _, _, hn⟩ => by
    obtain rfl := mk_inj hc
    omega), rfl⟩
theorem joinTo_yes {l : List ByteArray} {b : UInt8} (h0 : 0 < l.length) (h1 : noneHas l b) (h2 : (jnL l b l.length).length ≤ 4000) : JoinTo l ⟨#[b]⟩ (.returned (.tuple #[.string ⟨(jnL l b l.length).toArray⟩, .bool true])) :=
  Or.inl ⟨b, rfl, h0, h1, h2, rfl⟩

theorem joinTo_pair {l : List ByteArray} {t : ByteArray} {e : Ending} (h : JoinTo l t e) : ∃ s b, e = .returned (.tuple #[.string s, .bool b]) ∧ JoinTo l t (.returned (.tuple #[.string s, .bool b])) := by
  rcases h with ⟨b, h1, h2, h3, h4, rfl⟩ | ⟨h1, rfl⟩
  · exact ⟨_, true, rfl, Or.inl ⟨b, h1, h2, h3, h4, rfl⟩⟩
  · exact ⟨_, false, rfl, Or.inr ⟨h1, rfl⟩⟩

theorem joinTo_unique {l : List ByteArray} {t s s' : ByteArray} {b b' : Bool} (h : JoinTo l t (.returned (.tuple #[.string s, .bool b]))) (h' : JoinTo l t (.returned (.tuple #[.string s', .bool b']))) : s' = s ∧ b' = b := by
  rcases h with ⟨x, a1, a2, a3, a4, a5⟩ | ⟨a1, a2⟩ <;> rcases h' with ⟨y, c1, c2, c3, c4, c5⟩ | ⟨c1, c2⟩
  · simp at a5 c5
    rw [a1] at c1
    obtain rfl := mk_inj c1
    exact ⟨by rw [a5.1, c5.1], by rw [a5.2, c5.2]⟩
  · exact absurd ⟨x, a1, a2, a3, a4⟩ c1
  · exact absurd ⟨y, c1, c2, c3, c4⟩ a1
  · simp at a2 c2
    exact ⟨by rw [a2.1, c2.1], by rw [a2.2, c2.2]⟩

end Go.Proofs.YtjildaahoclojaaDoor
