/-
  The run in memory behind a step, from what the step left in each role's block.
-/
import Derived.Test.YtdbiphibdaghkaaRuns
namespace Go.Proofs.Ytdbiphibdaghkaa
open Go.RowKit
set_option linter.unusedVariables false
set_option linter.unusedSimpArgs false

theorem Grows.congr {blk blk' : Rl → Nat} {c c' : Rl → Option Row} {r : Rl} {e : TypeId} {sz k : Nat} {xs : List Value} {v : Value} (h : Grows blk c r e sz k xs v) (h1 : blk' r = blk r) (h2 : c' r = c r) : Grows blk' c' r e sz k xs v := by
  unfold Grows at h ⊢
  rw [h1, h2]
  exact h

variable {K : Kd} {P : Par} {blk blk' : Rl → Nat} {c c' : Rl → Option Row} {st : St K} {h : Nat} {x : Stp} {f' : Nat → Int}

/-- A step behind which the task goes on. -/
theorem Good.goesOn (G : Good K P blk c st) (hK : K.Ok) (hh : h < P.nh) (hd : st.done h < P.jn h) (hx : stepOf P.n st.f (K.req (st.cur h)) = x) (hf : wordsOf P.n st.f (K.req (st.cur h)) = f')
    (hend : ¬ K.ends (st.cur h) x = true) (hw : ∀ i, i < P.n → 0 ≤ f' i ∧ f' i ≤ 18446744073709551615)
    (hb : ∀ r, r ≠ .steps → blk' r = blk r) (hc : ∀ r, r ≠ .steps → r ≠ .run → r ≠ .words → r ≠ .task h (st.done h) → c' r = c r)
    (eW : c' .words = some ⟨125, P.n, fun i => .int .u64 (f' i)⟩) (eK : c' (.task h (st.done h)) = some ⟨K.t, K.n, K.cell (K.next (st.cur h) x)⟩)
    {RF : Nat → Value} (eR : c' .run = some ⟨111, 5, RF⟩) (R0 : RF 0 = .slice (some ⟨blk .tasks, 0, none⟩) P.nh P.nh) (R1 : RF 1 = .slice (some ⟨blk .going, 0, none⟩) P.nh P.nh) (R2 : RF 2 = .int .i64 h)
    (R4 : RF 4 = .slice (some ⟨blk .answers, 0, none⟩) P.nh P.nh) (R3 : Grows blk' c' .steps 46 6 (st.k + 1) (stepCells st.s st.k ++ x.cells) (RF 3)) : Good K P blk' c' (stepSt P st h) := by
  have hdone : (stepSt P st h).done = st.done := by simp only [stepSt, hx]; rw [if_neg hend]
  have hans : (stepSt P st h).ans = st.ans := by simp only [stepSt, hx]; rw [if_neg hend]
  have hcur : (stepSt P st h).cur = upd st.cur h (K.next (st.cur h) x) := by simp only [stepSt, hx]; rw [if_neg hend]
  have hgo : (stepSt P st h).going P = st.going P := by funext i; simp only [St.going, hdone]
  refine ⟨?_, ?_, G.most, ?_, ?_, ?_, ?_, ?_, ?_, ?_, ?_, G.jobs, G.hands, ?_, G.jwf, ?_⟩
  · rw [hc _ (by simp) (by simp) (by simp) (by simp), hb _ (by simp)]; exact G.mem
  · rw [eW]; simp only [stepSt, hf]
  · simp only [stepSt, hf]; exact hw
  · refine ⟨RF 3, RF, eR, by rw [hb _ (by simp)]; exact R0, by rw [hb _ (by simp)]; exact R1, R2, rfl, by rw [hb _ (by simp)]; exact R4, ?_⟩
    have : stepCells (stepSt P st h).s (stepSt P st h).k = stepCells st.s st.k ++ x.cells := by
      simp only [stepSt, hx, stepCells, upd_same]
      rw [stepCells_congr (b := st.s) (fun j hj => upd_other _ _ (by omega))]
    rw [this]; exact R3
  · obtain ⟨T, eT, hT⟩ := G.tasks
    refine ⟨T, by rw [hc _ (by simp) (by simp) (by simp) (by simp)]; exact eT, ?_⟩
    rw [hdone]
    intro i hi
    rw [hb _ (by simp)]
    exact hT i hi
  · obtain ⟨Gf, eG, hG⟩ := G.going
    exact ⟨Gf, by rw [hc _ (by simp) (by simp) (by simp) (by simp)]; exact eG, by rw [hgo]; exact hG⟩
  · obtain ⟨A, eA, hA⟩ := G.answers
    refine ⟨A, by rw [hc _ (by simp) (by simp) (by simp) (by simp)]; exact eA, ?_⟩
    rw [hdone, hans]
    exact fun i hi => (hA i hi).congr (hb _ (by simp)) (hc _ (by simp) (by simp) (by simp) (by simp))
  · intro i hi hj
    obtain ⟨cap, F, e1, e2, e3⟩ := G.trow i hi hj
    exact ⟨cap, F, by rw [hc _ (by simp) (by simp) (by simp) (by simp)]; exact e1, e2, fun j hj => by rw [hb _ (by simp)]; exact e3 j hj⟩
  · intro i hi j h1 h2
    rw [hdone] at h1 ⊢
    rw [hcur]
    by_cases hih : i = h
    · subst hih
      by_cases hj : j = st.done i
      · subst hj; rw [if_pos rfl, upd_same]; exact eK
      · rw [if_neg hj, hc _ (by simp) (by simp) (by simp) (by simp [hj])]
        have := G.task i hi j h1 h2
        rwa [if_neg hj] at this
    · rw [upd_other _ _ hih, hc _ (by simp) (by simp) (by simp) (by simp [hih])]
      exact G.task i hi j h1 h2
  · rw [hdone]; exact G.doneLe
  · rw [hdone, hcur]
    intro i hi hl
    by_cases hih : i = h
    · subst hih; rw [upd_same]; exact hK.next _ _ (G.wf i hi hl)
    · rw [upd_other _ _ hih]; exact G.wf i hi hl
  · simp only [stepSt]; omega

/-- A step behind which the task has ended. -/
theorem Good.ended (G : Good K P blk c st) (hK : K.Ok) (hh : h < P.nh) (hd : st.done h < P.jn h) (hx : stepOf P.n st.f (K.req (st.cur h)) = x) (hf : wordsOf P.n st.f (K.req (st.cur h)) = f')
    (hend : K.ends (st.cur h) x = true) (hw : ∀ i, i < P.n → 0 ≤ f' i ∧ f' i ≤ 18446744073709551615)
    (hb : ∀ r, r ≠ .steps → r ≠ .arow h → blk' r = blk r)
    (hc : ∀ r, r ≠ .steps → r ≠ .run → r ≠ .words → r ≠ .task h (st.done h) → r ≠ .arow h → r ≠ .answers → r ≠ .tasks → r ≠ .going → c' r = c r)
    (eW : c' .words = some ⟨125, P.n, fun i => .int .u64 (f' i)⟩)
    {RF : Nat → Value} (eR : c' .run = some ⟨111, 5, RF⟩) (R0 : RF 0 = .slice (some ⟨blk .tasks, 0, none⟩) P.nh P.nh) (R1 : RF 1 = .slice (some ⟨blk .going, 0, none⟩) P.nh P.nh) (R2 : RF 2 = .int .i64 h)
    (R4 : RF 4 = .slice (some ⟨blk .answers, 0, none⟩) P.nh P.nh) (R3 : Grows blk' c' .steps 46 6 (st.k + 1) (stepCells st.s st.k ++ x.cells) (RF 3))
    {T T' : Nat → Value} (eT : c .tasks = some ⟨129, P.nh, T⟩) (eT' : c' .tasks = some ⟨129, P.nh, T'⟩) (hT' : ∀ i, i ≠ h → T' i = T i) {ao : Option Addr} {tc : Nat} (hTh : T' h = .slice ao (P.jn h - (st.done h + 1)) tc)
    (hao : st.done h + 1 < P.jn h → ao = some ⟨blk (.trow h), st.done h + 1, none⟩ ∧ P.jn h - (st.done h + 1) ≤ tc)
    {Gf Gf' : Nat → Value} (eG : c .going = some ⟨4, P.nh, Gf⟩) (eG' : c' .going = some ⟨4, P.nh, Gf'⟩) (hG' : ∀ i, i ≠ h → Gf' i = Gf i) (hGh : Gf' h = .bool (decide (st.done h + 1 < P.jn h)))
    {A A' : Nat → Value} (eA : c .answers = some ⟨47, P.nh, A⟩) (eA' : c' .answers = some ⟨47, P.nh, A'⟩) (hA' : ∀ i, i ≠ h → A' i = A i)
    (hAh : Grows blk' c' (.arow h) 49 2 (st.done h + 1) (ansCells (st.ans h) (st.done h) ++ (K.tell (K.next (st.cur h) x)).cells) (A' h)) : Good K P blk' c' (stepSt P st h) := by
  have hdone : (stepSt P st h).done = upd st.done h (st.done h + 1) := by simp only [stepSt, hx]; rw [if_pos hend]
  have hans : (stepSt P st h).ans = upd st.ans h (upd (st.ans h) (st.done h) (K.tell (K.next (st.cur h) x))) := by simp only [stepSt, hx]; rw [if_pos hend]
  have hcur : (stepSt P st h).cur = upd st.cur h (K.init h (P.jb h (st.done h + 1))) := by simp only [stepSt, hx]; rw [if_pos hend]
  have d1 : ∀ i, i ≠ h → (stepSt P st h).done i = st.done i := fun i hi => by rw [hdone, upd_other _ _ hi]
  have d2 : (stepSt P st h).done h = st.done h + 1 := by rw [hdone, upd_same]
  refine ⟨?_, ?_, G.most, ?_, ?_, ?_, ?_, ?_, ?_, ?_, ?_, G.jobs, G.hands, ?_, G.jwf, ?_⟩
  · rw [hc _ (by simp) (by simp) (by simp) (by simp) (by simp) (by simp) (by simp) (by simp), hb _ (by simp) (by simp)]; exact G.mem
  · rw [eW]; simp only [stepSt, hf]
  · simp only [stepSt, hf]; exact hw
  · refine ⟨RF 3, RF, eR, by rw [hb _ (by simp) (by simp)]; exact R0, by rw [hb _ (by simp) (by simp)]; exact R1, R2, rfl, by rw [hb _ (by simp) (by simp)]; exact R4, ?_⟩
    have : stepCells (stepSt P st h).s (stepSt P st h).k = stepCells st.s st.k ++ x.cells := by
      simp only [stepSt, hx, stepCells, upd_same]
      rw [stepCells_congr (b := st.s) (fun j hj => upd_other _ _ (by omega))]
    rw [this]; exact R3
  · obtain ⟨T0, eT0, hT0⟩ := G.tasks
    obtain rfl : T = T0 := by rw [eT] at eT0; cases eT0; rfl
    refine ⟨T', eT', fun i hi => ?_⟩
    rw [hb _ (by simp) (by simp)]
    by_cases hih : i = h
    · subst hih
      rw [d2, hTh]
      refine ⟨fun hl => ?_, fun he => ⟨ao, tc, by rw [he, Nat.sub_self]⟩⟩
      obtain ⟨e, hle⟩ := hao hl
      exact ⟨tc, hle, by rw [e]⟩
    · rw [d1 i hih, hT' i hih]
      exact hT0 i hi
  · obtain ⟨G0, eG0, hG0⟩ := G.going
    obtain rfl : Gf = G0 := by rw [eG] at eG0; cases eG0; rfl
    refine ⟨Gf', eG', fun i hi => ?_⟩
    by_cases hih : i = h
    · subst hih
      rw [hGh]; simp only [St.going, d2]
    · rw [hG' i hih, hG0 i hi]; simp only [St.going, d1 i hih]
  · obtain ⟨A0, eA0, hA0⟩ := G.answers
    obtain rfl : A = A0 := by rw [eA] at eA0; cases eA0; rfl
    refine ⟨A', eA', fun i hi => ?_⟩
    by_cases hih : i = h
    · subst hih
      rw [d2]
      have : ansCells ((stepSt P st i).ans i) (st.done i + 1) = ansCells (st.ans i) (st.done i) ++ (K.tell (K.next (st.cur i) x)).cells := by
        rw [hans, upd_same]
        simp only [ansCells, upd_same]
        rw [ansCells_congr (b := st.ans i) (fun j hj => upd_other _ _ (by omega))]
      rw [this]; exact hAh
    · rw [d1 i hih, hA' i hih, hans, upd_other _ _ hih]
      exact (hA0 i hi).congr (hb _ (by simp) (by simp [hih])) (hc _ (by simp) (by simp) (by simp) (by simp) (by simp [hih]) (by simp) (by simp) (by simp))
  · intro i hi hj
    obtain ⟨cap, F, e1, e2, e3⟩ := G.trow i hi hj
    exact ⟨cap, F, by rw [hc _ (by simp) (by simp) (by simp) (by simp) (by simp) (by simp) (by simp) (by simp)]; exact e1, e2, fun j hj => by rw [hb _ (by simp) (by simp)]; exact e3 j hj⟩
  · intro i hi j h1 h2
    rw [hcur]
    by_cases hih : i = h
    · subst hih
      rw [d2] at h1 ⊢
      rw [upd_same, hc _ (by simp) (by simp) (by simp) (by simp; omega) (by simp) (by simp) (by simp) (by simp)]
      have := G.task i hi j (by omega) h2
      rw [if_neg (by omega)] at this
      rw [this]
      split
      · rename_i e; rw [e]
      · rfl
    · rw [d1 i hih] at h1 ⊢
      rw [upd_other _ _ hih, hc _ (by simp) (by simp) (by simp) (by simp [hih]) (by simp) (by simp) (by simp) (by simp)]
      exact G.task i hi j h1 h2
  · intro i hi
    by_cases hih : i = h
    · subst hih; rw [d2]; omega
    · rw [d1 i hih]; exact G.doneLe i hi
  · rw [hcur]
    intro i hi hl
    by_cases hih : i = h
    · subst hih; rw [d2] at hl; rw [upd_same]; exact hK.init _ _ (G.jwf i hi _ hl)
    · rw [upd_other _ _ hih]; rw [d1 i hih] at hl; exact G.wf i hi hl
  · simp only [stepSt]; omega
end Go.Proofs.Ytdbiphibdaghkaa
