/-
  Lemmas: HistG.
-/
import Derived.Test.YtidihnnmdmlgfaaGreatTq12
namespace Go.Proofs.YtidihnnmdmlgfaaGreat
set_option maxHeartbeats 8000000
set_option linter.unusedVariables false
set_option linter.unusedSimpArgs false
section
variable {K : Kd} {P : Par} {f : Nat → Int}
theorem run_succ_cases (P : Par) (s : St K) (h0 : s.k = 0) (m : Nat) : (runSt P s (m + 1) = runSt P s m ∧ (runSt P s m).turn P < 0) ∨
    ∃ h : Nat, (runSt P s m).turn P = h ∧ h < P.nh ∧ (runSt P s m).done h < P.jn h ∧ (runSt P s m).k = m ∧ runSt P s (m + 1) = stepSt P (runSt P s m) h := by
  rcases turn_ok P (runSt P s m) with ⟨ht, _⟩ | ⟨h, ht, hh, hd⟩
  · left
    refine ⟨?_, by rw [ht]; decide⟩
    show (if _ then _ else _) = _
    rw [if_pos (by rw [ht]; decide)]
  · right
    refine ⟨h, ht, hh, hd, ?_, runSt_step ht⟩
    have hk := runSt_k P s h0 m
    rcases Nat.lt_or_ge (runSt P s m).k m with l | l
    · have := hk.2 l; rw [ht] at this; omega
    · omega
theorem hist (P : Par) (s : St K) (h0 : s.k = 0) : ∀ m i, i < (runSt P s m).k → (runSt P s i).k = i ∧ (∃ h : Nat, (runSt P s i).turn P = h ∧ h < P.nh ∧ (runSt P s i).done h < P.jn h ∧ runSt P s (i + 1) = stepSt P (runSt P s i) h) ∧ (runSt P s m).s i = (runSt P s (i + 1)).s i
  | 0, i, hi => by have : (runSt P s 0).k = 0 := h0; omega
  | m + 1, i, hi => by
    rcases run_succ_cases P s h0 m with ⟨e, _⟩ | ⟨h, ht, hh, hd, hk, e⟩
    · rw [e] at hi ⊢
      exact hist P s h0 m i hi
    · have hk1 : (runSt P s (m + 1)).k = m + 1 := by rw [e]; show (runSt P s m).k + 1 = _; rw [hk]
      rw [hk1] at hi
      by_cases him : i = m
      · subst him
        exact ⟨hk, ⟨h, ht, hh, hd, e⟩, rfl⟩
      · obtain ⟨a, b, c⟩ := hist P s h0 m i (by rw [hk]; omega)
        refine ⟨a, b, ?_⟩
        rw [← c, e]
        show upd (runSt P s m).s (runSt P s m).k _ i = _
        rw [upd_other _ _ (by omega)]
theorem step_done (P : Par) (st : St K) (h h' : Nat) : st.done h' ≤ (stepSt P st h).done h' ∧ ∀ j, j < st.done h' → (stepSt P st h).ans h' j = st.ans h' j := by
  simp only [stepSt]
  split
  · by_cases e : h' = h
    · subst e
      rw [upd_same, upd_same]
      exact ⟨by omega, fun j hj => upd_other _ _ (by omega)⟩
    · rw [upd_other _ _ e, upd_other _ _ e]
      exact ⟨Nat.le_refl _, fun _ _ => rfl⟩
  · exact ⟨Nat.le_refl _, fun _ _ => rfl⟩
theorem stays (P : Par) (s : St K) (h0 : s.k = 0) (i h' : Nat) : ∀ d, (runSt P s i).done h' ≤ (runSt P s (i + d)).done h' ∧ ∀ j, j < (runSt P s i).done h' → (runSt P s (i + d)).ans h' j = (runSt P s i).ans h' j
  | 0 => ⟨Nat.le_refl _, fun _ _ => rfl⟩
  | d + 1 => by
    obtain ⟨a, b⟩ := stays P s h0 i h' d
    rcases run_succ_cases P s h0 (i + d) with ⟨e, _⟩ | ⟨h, ht, hh, hd, hk, e⟩
    · rw [show i + (d + 1) = i + d + 1 by omega, e]
      exact ⟨a, b⟩
    · rw [show i + (d + 1) = i + d + 1 by omega, e]
      obtain ⟨x, y⟩ := step_done P (runSt P s (i + d)) h h'
      exact ⟨by omega, fun j hj => (y j (by omega)).trans (b j hj)⟩
end
end Go.Proofs.YtidihnnmdmlgfaaGreat
