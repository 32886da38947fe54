/-
  Tasks as they are made, one behind the other: what stands in memory behind the first m h of each hand's.
-/
import Derived.Test.YtdbiphibdaghkaaSteps0
import Derived.Test.YtdbiphibdaghkaaHands
namespace Go.Proofs.Ytdbiphibdaghkaa
open Go.RowKit
set_option linter.unusedVariables false
set_option linter.unusedSimpArgs false

/-- The interface values of a hand's first tasks. -/
def ifs (K : Kd) (blk : Rl → Nat) (h : Nat) : Nat → List Value
  | 0 => []
  | k + 1 => ifs K blk h k ++ [.iface K.tid (.pointer (some ⟨blk (.task h k), 0, none⟩))]
theorem ifs_length (K : Kd) (blk : Rl → Nat) (h k : Nat) : (ifs K blk h k).length = k * 1 := by
  induction k with
  | zero => rfl
  | succ k ih => simp [ifs, ih]
theorem ifs_congr {K : Kd} {blk blk' : Rl → Nat} {h k : Nat} (e : ∀ j, j < k → blk' (.task h j) = blk (.task h j)) : ifs K blk' h k = ifs K blk h k := by
  induction k with
  | zero => rfl
  | succ k ih => simp only [ifs]; rw [ih (fun j hj => e j (by omega)), e k (by omega)]
theorem ifs_get {K : Kd} {blk : Rl → Nat} {h k j : Nat} (hj : j < k) : (ifs K blk h k)[j]? = some (.iface K.tid (.pointer (some ⟨blk (.task h j), 0, none⟩))) := by
  induction k with
  | zero => omega
  | succ k ih =>
    simp only [ifs]
    by_cases e : j = k
    · subst e
      rw [List.getElem?_append_right (by rw [ifs_length]; omega), ifs_length]
      simp
    · rw [List.getElem?_append_left (by rw [ifs_length]; omega)]
      exact ih (by omega)

def mUp (jn : Nat → Nat) (i j : Nat) : Nat → Nat := fun h => if h < i then jn h else if h = i then j else 0
theorem mUp_next (jn : Nat → Nat) (i : Nat) : mUp jn i (jn i) = mUp jn (i + 1) 0 := by
  funext h
  unfold mUp
  by_cases h1 : h < i
  · rw [if_pos h1, if_pos (by omega)]
  · by_cases h2 : h = i
    · rw [if_neg h1, if_pos h2, if_pos (by omega), h2]
    · rw [if_neg h1, if_neg h2, if_neg (by omega)]; split <;> rfl
theorem mUp_self (jn : Nat → Nat) (i j : Nat) : mUp jn i j i = j := by unfold mUp; rw [if_neg (by omega), if_pos rfl]
theorem mUp_succ (jn : Nat → Nat) (i j h : Nat) (hne : h ≠ i) : mUp jn i (j + 1) h = mUp jn i j h := by unfold mUp; rw [if_neg hne, if_neg hne]
theorem mUp_all (jn : Nat → Nat) (n h : Nat) (hh : h < n) : mUp jn n 0 h = jn h := by unfold mUp; rw [if_pos hh]

structure Made (K : Kd) (P : Par) (blk0 : Rl → Nat) (c0 : Rl → Option Row) (blk : Rl → Nat) (c : Rl → Option Row) (m : Nat → Nat) : Prop where
  mem : c .mem = c0 .mem
  words : c .words = c0 .words
  bm : blk .mem = blk0 .mem
  bw : blk .words = blk0 .words
  free : c .run = none ∧ c .going = none ∧ c .answers = none ∧ c .steps = none ∧ ∀ h, c (.arow h) = none
  tasks : ∃ T, c .tasks = some ⟨129, P.nh, T⟩ ∧ ∀ h, h < P.nh → Grows blk c (.trow h) 83 1 (m h) (ifs K blk h (m h)) (T h)
  task : ∀ h, h < P.nh → ∀ j, j < m h → c (.task h j) = some ⟨K.t, K.n, K.cell (K.init h (P.jb h j))⟩

/-- The first error that the jobs make. -/
def FirstErr (K : Kd) (P : Par) (e : Int) : Prop :=
  ∃ H J, H < P.nh ∧ J < P.jn H ∧ K.err (P.jb H J) = e ∧ e ≠ 0 ∧ (∀ h, h < H → ∀ j, j < P.jn h → K.err (P.jb h j) = 0) ∧ ∀ j, j < J → K.err (P.jb H j) = 0
def AllOk (K : Kd) (P : Par) : Prop := ∀ h, h < P.nh → ∀ j, j < P.jn h → K.err (P.jb h j) = 0

theorem FirstErr.one {K : Kd} {P : Par} {e e' : Int} (h : FirstErr K P e) (h' : FirstErr K P e') : e = e' := by
  obtain ⟨H, J, h1, h2, h3, h4, h5, h6⟩ := h
  obtain ⟨H', J', h1', h2', h3', h4', h5', h6'⟩ := h'
  rcases Nat.lt_trichotomy H H' with l | rfl | l
  · exact absurd (h5' H l J h2) (by rw [h3]; exact h4)
  · rcases Nat.lt_trichotomy J J' with l | rfl | l
    · exact absurd (h6' J l) (by rw [h3]; exact h4)
    · rw [← h3, ← h3']
    · exact absurd (h6 J' l) (by rw [h3']; exact h4')
  · exact absurd (h5 H' l J' h2') (by rw [h3']; exact h4')
theorem FirstErr.not {K : Kd} {P : Par} {e : Int} (h : FirstErr K P e) : ¬ AllOk K P := fun ha => by
  obtain ⟨H, J, h1, h2, h3, h4, _⟩ := h
  exact h4 (by rw [← h3]; exact ha H h1 J h2)

variable {K : Kd} {P : Par} {blk0 blk blk' : Rl → Nat} {c0 c c' : Rl → Option Row} {m : Nat → Nat} {w w' : World} {base : Nat}

/-- One task more: its block, then the hand's row with its interface value. -/
theorem Made.more {i j nb nb2 cap : Nat} {F : Nat → Value} {T : Nat → Value} {v : Value} {jn : Nat → Nat} (M : Made K P blk0 c0 blk c (mUp jn i j)) (hi : i < P.nh)
    (eT : c .tasks = some ⟨129, P.nh, T⟩)
    (hv : v = .slice (some ⟨nb2, 0, none⟩) (j + 1) cap) (hp : Pre F (ifs K (upd blk (.task i j) nb) i (j + 1))) (hc1 : j + 1 ≤ cap) (hc2 : cap ≤ maxLen) :
    Made K P blk0 c0 (upd (upd blk (.task i j) nb) (.trow i) nb2)
      (upd (upd (upd c (.task i j) (some ⟨K.t, K.n, K.cell (K.init i (P.jb i j))⟩)) (.trow i) (some ⟨83, cap * 1, F⟩)) .tasks (some ⟨129, P.nh, fun k => if k = i then v else T k⟩)) (mUp jn i (j + 1)) := by
  refine ⟨by simpa [upd] using M.mem, by simpa [upd] using M.words, by simpa [upd] using M.bm, by simpa [upd] using M.bw, ?_, ⟨fun k => if k = i then v else T k, by simp [upd], fun h hh => ?_⟩, fun h hh k hk => ?_⟩
  · obtain ⟨f1, f2, f3, f4, f5⟩ := M.free
    exact ⟨by simpa [upd] using f1, by simpa [upd] using f2, by simpa [upd] using f3, by simpa [upd] using f4, fun h => by simpa [upd] using f5 h⟩
  · obtain ⟨T0, eT0, hT0⟩ := M.tasks
    obtain rfl : T = T0 := by rw [eT] at eT0; cases eT0; rfl
    show Grows _ _ _ _ _ _ _ (if h = i then v else T h)
    by_cases e : h = i
    · subst e
      rw [mUp_self, if_pos rfl]
      refine .inr ⟨cap, F, by simpa [upd] using hv, by simp [upd], hc1, hc2, ?_⟩
      rw [ifs_congr (blk := upd blk (.task h j) nb) (fun k hk => by simp [upd])]
      exact hp
    · rw [mUp_succ _ _ _ _ e]
      rw [if_neg e]
      have := hT0 h hh
      rw [ifs_congr (blk := blk) (fun k hk => by simp [upd, e])]
      exact this.congr (by simp [upd, e]) (by simp [upd, e])
  · by_cases e : h = i
    · subst e
      rw [mUp_self] at hk
      by_cases ek : k = j
      · subst ek; simp [upd]
      · have := M.task h hh k (by rw [mUp_self]; omega)
        simpa [upd, ek] using this
    · rw [mUp_succ _ _ _ _ e] at hk
      have := M.task h hh k hk
      simpa [upd, e] using this
end Go.Proofs.Ytdbiphibdaghkaa
