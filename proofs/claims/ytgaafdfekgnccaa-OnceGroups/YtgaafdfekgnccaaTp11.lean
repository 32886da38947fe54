/-
  Lemmas: RDone, Goods, Steps0, RDone2.
-/
import Derived.Test.YtgaafdfekgnccaaTp10
import Derived.Deep.RegionLaw
import Derived.Deep.AppendLies
import Derived.Test.YtgaafdfekgnccaaTp05
import Derived.Deep.Cut
/-
  The reference's run behind a step.
-/
namespace Go.Proofs.Ytgaafdfekgnccaa
open Go.RowKit
set_option linter.unusedVariables false
set_option linter.unusedSimpArgs false
set_option linter.unnecessarySimpa false
set_option maxRecDepth 20000
open Beg

variable {K : Kd} {rep : List Value → K.σ → Prop} {P : Par} {blk blk' : Rl → Nat} {c c' : Rl → Option Row} {st : St K} {un : Nat → Bool} {capw : Nat} {sv sv' : Value} {w : World} {base B : Nat} {aoh aos : Option Addr} {caph caps : Nat} {sh : Shp} {la : Int} {h : Nat} {x : Stp} {f' : Nat → Int} {cs : List Value}

/-- With the words of a step, all else as it was. -/
def St.with (st : St K) (f' : Nat → Int) : St K := { st with f := f' }

/-- Without what was lent to the roles of single tasks. -/
def bare (c : Rl → Option Row) : Rl → Option Row := fun r => match r with | .task _ _ => none | r => c r
theorem bare_of {c : Rl → Option Row} {r : Rl} (h : ∀ a b, r ≠ .task a b) : bare c r = c r := by
  cases r <;> first | rfl | exact absurd rfl (h _ _)
theorem Has.bare {w : World} {base : Nat} {blk : Rl → Nat} {c : Rl → Option Row} (h : Has w base blk c) : Has w base blk (bare c) := h.weaken (fun r x e => by
  cases r <;> first | exact e | cases e)
def lrow (l : List Value) : Nat → Value := fun i => l[i]?.getD default
theorem lrow_of {l : List Value} {i : Nat} {v : Value} (h : l[i]? = some v) : lrow l i = v := by simp [lrow, h]

theorem boxes {w : World} {base : Nat} {blk : Rl → Nat} {c : Rl → Option Row} (H : Has w base blk c) (hb : base ≤ w.heap.size) (l0 l1 l2 l3 : List Value) (t0 t1 t2 t3 : TypeId) :
    Has ((((w.alloc (.cells l0.toArray t0)).alloc (.cells l1.toArray t1)).alloc (.cells l2.toArray t2)).alloc (.cells l3.toArray t3)) base
      (upd (upd (upd (upd blk (.task 0 0) w.heap.size) (.task 0 1) (w.heap.size + 1)) (.task 0 2) (w.heap.size + 2)) (.task 0 3) (w.heap.size + 3))
      (upd (upd (upd (upd (bare c) (.task 0 0) (some ⟨t0, l0.length, lrow l0⟩)) (.task 0 1) (some ⟨t1, l1.length, lrow l1⟩)) (.task 0 2) (some ⟨t2, l2.length, lrow l2⟩)) (.task 0 3) (some ⟨t3, l3.length, lrow l3⟩)) := by
  have row : ∀ (w : World) (l : List Value) (t : TypeId), (w.alloc (.cells l.toArray t)).rowIs w.heap.size t l.length (lrow l) := fun w l t => World.rowIs_alloc' w l.toArray t l.length (by simp) (fun i hi => by simp [lrow, hi])
  have one : ∀ {w : World} {blk : Rl → Nat} {c : Rl → Option Row} (H : Has w base blk c) (hb : base ≤ w.heap.size) (r : Rl) (l : List Value) (t : TypeId) {n : Nat}, w.heap.size = n → Has (w.alloc (.cells l.toArray t)) base (upd blk r n) (upd c r (some ⟨t, l.length, lrow l⟩)) := fun {w} {blk} {c} H hb r l t {n} hn => by
    subst hn
    exact H.add r w.heap.size _ hb (Nat.le_refl _) (S := fun _ => False) ((Touch.refl w _).alloc _) (fun _ _ _ _ => id) (row w l t)
  exact one (one (one (one H.bare hb _ l0 t0 rfl) (by simp; omega) _ l1 t1 (by simp)) (by simp; omega) _ l2 t2 (by simp)) (by simp; omega) _ l3 t3 (by simp)
end Go.Proofs.Ytgaafdfekgnccaa

/-
  The run in memory behind a step, from what the step left in each role's block.
-/
namespace Go.Proofs.Ytgaafdfekgnccaa
open Go.RowKit
set_option linter.unusedVariables false
set_option linter.unusedSimpArgs false

theorem Grows.congr {blk blk' : Rl → Nat} {c c' : Rl → Option Row} {r : Rl} {e : TypeId} {sz k : Nat} {xs : List Value} {v : Value} (h : Grows blk c r e sz k xs v) (h1 : blk' r = blk r) (h2 : c' r = c r) : Grows blk' c' r e sz k xs v := by
  unfold Grows at h ⊢
  rw [h1, h2]
  exact h

variable {K : Kd} {P : Par} {blk blk' : Rl → Nat} {c c' : Rl → Option Row} {st : St K} {h : Nat} {x : Stp} {f' : Nat → Int}

/-- A step behind which the task goes on. -/
theorem Good.goesOn (G : Good K P blk c st) (hK : K.Ok) (hh : h < P.nh) (hd : st.done h < P.jn h) (hx : stepOf P.n st.f (K.req (st.cur h)) = x) (hf : wordsOf P.n st.f (K.req (st.cur h)) = f')
    (hend : ¬ K.ends (st.cur h) x = true) (hw : ∀ i, i < P.n → 0 ≤ f' i ∧ f' i ≤ 18446744073709551615)
    (hb : ∀ r, r ≠ .steps → blk' r = blk r) (hc : ∀ r, r ≠ .steps → r ≠ .run → r ≠ .words → r ≠ .task h (st.done h) → c' r = c r)
    (eW : c' .words = some ⟨115, P.n, fun i => .int .u64 (f' i)⟩) (eK : c' (.task h (st.done h)) = some ⟨K.t (P.jb h (st.done h)), K.n (P.jb h (st.done h)), K.cell (blk (.task h (st.done h))) (K.next (st.cur h) x)⟩)
    {RF : Nat → Value} (eR : c' .run = some ⟨100, 5, RF⟩) (R0 : RF 0 = .slice (some ⟨blk .tasks, 0, none⟩) P.nh P.nh) (R1 : RF 1 = .slice (some ⟨blk .going, 0, none⟩) P.nh P.nh) (R2 : RF 2 = .int .i64 h)
    (R4 : RF 4 = .slice (some ⟨blk .answers, 0, none⟩) P.nh P.nh) (R3 : Grows blk' c' .steps 122 6 (st.k + 1) (stepCells st.s st.k ++ x.cells) (RF 3)) : Good K P blk' c' (stepSt P st h) := by
  have hdone : (stepSt P st h).done = st.done := by simp only [stepSt, hx]; rw [if_neg hend]
  have hans : (stepSt P st h).ans = st.ans := by simp only [stepSt, hx]; rw [if_neg hend]
  have hcur : (stepSt P st h).cur = upd st.cur h (K.next (st.cur h) x) := by simp only [stepSt, hx]; rw [if_neg hend]
  have hgo : (stepSt P st h).going P = st.going P := by funext i; simp only [St.going, hdone]
  refine ⟨?_, ?_, G.most, ?_, ?_, ?_, ?_, ?_, ?_, ?_, ?_, G.jobs, G.hands, ?_, G.jwf, ?_⟩
  · rw [hc _ (by simp) (by simp) (by simp) (by simp), hb _ (by simp)]; exact G.mem
  · rw [eW]; simp only [stepSt, hf]
  · simp only [stepSt, hf]; exact hw
  · refine ⟨RF 3, RF, eR, by rw [hb _ (by simp)]; exact R0, by rw [hb _ (by simp)]; exact R1, R2, rfl, by rw [hb _ (by simp)]; exact R4, ?_⟩
    have : stepCells (stepSt P st h).s (stepSt P st h).k = stepCells st.s st.k ++ x.cells := by
      simp only [stepSt, hx, stepCells, upd_same]
      rw [stepCells_congr (b := st.s) (fun j hj => upd_other _ _ (by omega))]
    rw [this]; exact R3
  · obtain ⟨T, eT, hT⟩ := G.tasks
    refine ⟨T, by rw [hc _ (by simp) (by simp) (by simp) (by simp)]; exact eT, ?_⟩
    rw [hdone]
    intro i hi
    rw [hb _ (by simp)]
    exact hT i hi
  · obtain ⟨Gf, eG, hG⟩ := G.going
    exact ⟨Gf, by rw [hc _ (by simp) (by simp) (by simp) (by simp)]; exact eG, by rw [hgo]; exact hG⟩
  · obtain ⟨A, eA, hA⟩ := G.answers
    refine ⟨A, by rw [hc _ (by simp) (by simp) (by simp) (by simp)]; exact eA, ?_⟩
    rw [hdone, hans]
    exact fun i hi => (hA i hi).congr (hb _ (by simp)) (hc _ (by simp) (by simp) (by simp) (by simp))
  · intro i hi hj
    obtain ⟨cap, F, e1, e2, e3⟩ := G.trow i hi hj
    exact ⟨cap, F, by rw [hc _ (by simp) (by simp) (by simp) (by simp)]; exact e1, e2, fun j hj => by rw [hb _ (by simp)]; exact e3 j hj⟩
  · intro i hi j h1 h2
    rw [hdone] at h1 ⊢
    rw [hcur]
    by_cases hih : i = h
    · subst hih
      by_cases hj : j = st.done i
      · subst hj; rw [if_pos rfl, upd_same, hb _ (by simp)]; exact eK
      · rw [if_neg hj, hc _ (by simp) (by simp) (by simp) (by simp [hj]), hb _ (by simp)]
        have := G.task i hi j h1 h2
        rwa [if_neg hj] at this
    · rw [upd_other _ _ hih, hc _ (by simp) (by simp) (by simp) (by simp [hih]), hb _ (by simp)]
      exact G.task i hi j h1 h2
  · rw [hdone]; exact G.doneLe
  · rw [hdone, hcur]
    intro i hi hl
    by_cases hih : i = h
    · subst hih; rw [upd_same]; have hend' := hend; rw [← hx] at hend' ⊢; exact hK.next _ _ _ _ G.word (G.wf i hi hl) hend'
    · rw [upd_other _ _ hih]; exact G.wf i hi hl
  · simp only [stepSt]; omega

/-- A step behind which the task has ended. -/
theorem Good.ended (G : Good K P blk c st) (hK : K.Ok) (hh : h < P.nh) (hd : st.done h < P.jn h) (hx : stepOf P.n st.f (K.req (st.cur h)) = x) (hf : wordsOf P.n st.f (K.req (st.cur h)) = f')
    (hend : K.ends (st.cur h) x = true) (hw : ∀ i, i < P.n → 0 ≤ f' i ∧ f' i ≤ 18446744073709551615)
    (hb : ∀ r, r ≠ .steps → r ≠ .arow h → blk' r = blk r)
    (hc : ∀ r, r ≠ .steps → r ≠ .run → r ≠ .words → r ≠ .task h (st.done h) → r ≠ .arow h → r ≠ .answers → r ≠ .tasks → r ≠ .going → c' r = c r)
    (eW : c' .words = some ⟨115, P.n, fun i => .int .u64 (f' i)⟩)
    {RF : Nat → Value} (eR : c' .run = some ⟨100, 5, RF⟩) (R0 : RF 0 = .slice (some ⟨blk .tasks, 0, none⟩) P.nh P.nh) (R1 : RF 1 = .slice (some ⟨blk .going, 0, none⟩) P.nh P.nh) (R2 : RF 2 = .int .i64 h)
    (R4 : RF 4 = .slice (some ⟨blk .answers, 0, none⟩) P.nh P.nh) (R3 : Grows blk' c' .steps 122 6 (st.k + 1) (stepCells st.s st.k ++ x.cells) (RF 3))
    {T T' : Nat → Value} (eT : c .tasks = some ⟨119, P.nh, T⟩) (eT' : c' .tasks = some ⟨119, P.nh, T'⟩) (hT' : ∀ i, i ≠ h → T' i = T i) {ao : Option Addr} {tc : Nat} (hTh : T' h = .slice ao (P.jn h - (st.done h + 1)) tc)
    (hao : st.done h + 1 < P.jn h → ao = some ⟨blk (.trow h), st.done h + 1, none⟩ ∧ P.jn h - (st.done h + 1) ≤ tc)
    {Gf Gf' : Nat → Value} (eG : c .going = some ⟨4, P.nh, Gf⟩) (eG' : c' .going = some ⟨4, P.nh, Gf'⟩) (hG' : ∀ i, i ≠ h → Gf' i = Gf i) (hGh : Gf' h = .bool (decide (st.done h + 1 < P.jn h)))
    {A A' : Nat → Value} (eA : c .answers = some ⟨51, P.nh, A⟩) (eA' : c' .answers = some ⟨51, P.nh, A'⟩) (hA' : ∀ i, i ≠ h → A' i = A i)
    (hAh : Grows blk' c' (.arow h) 53 2 (st.done h + 1) (ansCells (st.ans h) (st.done h) ++ (K.tell (K.next (st.cur h) x)).cells) (A' h)) : Good K P blk' c' (stepSt P st h) := by
  have hdone : (stepSt P st h).done = upd st.done h (st.done h + 1) := by simp only [stepSt, hx]; rw [if_pos hend]
  have hans : (stepSt P st h).ans = upd st.ans h (upd (st.ans h) (st.done h) (K.tell (K.next (st.cur h) x))) := by simp only [stepSt, hx]; rw [if_pos hend]
  have hcur : (stepSt P st h).cur = upd st.cur h (K.init h (P.jb h (st.done h + 1))) := by simp only [stepSt, hx]; rw [if_pos hend]
  have d1 : ∀ i, i ≠ h → (stepSt P st h).done i = st.done i := fun i hi => by rw [hdone, upd_other _ _ hi]
  have d2 : (stepSt P st h).done h = st.done h + 1 := by rw [hdone, upd_same]
  refine ⟨?_, ?_, G.most, ?_, ?_, ?_, ?_, ?_, ?_, ?_, ?_, G.jobs, G.hands, ?_, G.jwf, ?_⟩
  · rw [hc _ (by simp) (by simp) (by simp) (by simp) (by simp) (by simp) (by simp) (by simp), hb _ (by simp) (by simp)]; exact G.mem
  · rw [eW]; simp only [stepSt, hf]
  · simp only [stepSt, hf]; exact hw
  · refine ⟨RF 3, RF, eR, by rw [hb _ (by simp) (by simp)]; exact R0, by rw [hb _ (by simp) (by simp)]; exact R1, R2, rfl, by rw [hb _ (by simp) (by simp)]; exact R4, ?_⟩
    have : stepCells (stepSt P st h).s (stepSt P st h).k = stepCells st.s st.k ++ x.cells := by
      simp only [stepSt, hx, stepCells, upd_same]
      rw [stepCells_congr (b := st.s) (fun j hj => upd_other _ _ (by omega))]
    rw [this]; exact R3
  · obtain ⟨T0, eT0, hT0⟩ := G.tasks
    obtain rfl : T = T0 := by rw [eT] at eT0; cases eT0; rfl
    refine ⟨T', eT', fun i hi => ?_⟩
    rw [hb _ (by simp) (by simp)]
    by_cases hih : i = h
    · subst hih
      rw [d2, hTh]
      refine ⟨fun hl => ?_, fun he => ⟨ao, tc, by rw [he, Nat.sub_self]⟩⟩
      obtain ⟨e, hle⟩ := hao hl
      exact ⟨tc, hle, by rw [e]⟩
    · rw [d1 i hih, hT' i hih]
      exact hT0 i hi
  · obtain ⟨G0, eG0, hG0⟩ := G.going
    obtain rfl : Gf = G0 := by rw [eG] at eG0; cases eG0; rfl
    refine ⟨Gf', eG', fun i hi => ?_⟩
    by_cases hih : i = h
    · subst hih
      rw [hGh]; simp only [St.going, d2]
    · rw [hG' i hih, hG0 i hi]; simp only [St.going, d1 i hih]
  · obtain ⟨A0, eA0, hA0⟩ := G.answers
    obtain rfl : A = A0 := by rw [eA] at eA0; cases eA0; rfl
    refine ⟨A', eA', fun i hi => ?_⟩
    by_cases hih : i = h
    · subst hih
      rw [d2]
      have : ansCells ((stepSt P st i).ans i) (st.done i + 1) = ansCells (st.ans i) (st.done i) ++ (K.tell (K.next (st.cur i) x)).cells := by
        rw [hans, upd_same]
        simp only [ansCells, upd_same]
        rw [ansCells_congr (b := st.ans i) (fun j hj => upd_other _ _ (by omega))]
      rw [this]; exact hAh
    · rw [d1 i hih, hA' i hih, hans, upd_other _ _ hih]
      exact (hA0 i hi).congr (hb _ (by simp) (by simp [hih])) (hc _ (by simp) (by simp) (by simp) (by simp) (by simp [hih]) (by simp) (by simp) (by simp))
  · intro i hi hj
    obtain ⟨cap, F, e1, e2, e3⟩ := G.trow i hi hj
    exact ⟨cap, F, by rw [hc _ (by simp) (by simp) (by simp) (by simp) (by simp) (by simp) (by simp) (by simp)]; exact e1, e2, fun j hj => by rw [hb _ (by simp) (by simp)]; exact e3 j hj⟩
  · intro i hi j h1 h2
    rw [hcur]
    by_cases hih : i = h
    · subst hih
      rw [d2] at h1 ⊢
      rw [upd_same, hc _ (by simp) (by simp) (by simp) (by simp; omega) (by simp) (by simp) (by simp) (by simp), hb _ (by simp) (by simp)]
      have := G.task i hi j (by omega) h2
      rw [if_neg (by omega)] at this
      rw [this]
      split
      · rename_i e; rw [e]
      · rfl
    · rw [d1 i hih] at h1 ⊢
      rw [upd_other _ _ hih, hc _ (by simp) (by simp) (by simp) (by simp [hih]) (by simp) (by simp) (by simp) (by simp), hb _ (by simp) (by simp)]
      exact G.task i hi j h1 h2
  · intro i hi
    by_cases hih : i = h
    · subst hih; rw [d2]; omega
    · rw [d1 i hih]; exact G.doneLe i hi
  · rw [hcur]
    intro i hi hl
    by_cases hih : i = h
    · subst hih; rw [d2] at hl ⊢; rw [upd_same]; exact hK.init _ _ (G.jwf i hi _ hl)
    · rw [upd_other _ _ hih]; rw [d1 i hih] at hl ⊢; exact G.wf i hi hl
  · simp only [stepSt]; omega
end Go.Proofs.Ytgaafdfekgnccaa

/-
  What the step of a run needs: two blocks written at once, rows that grow, elements laid in blocks of their own.
-/
namespace Go.Proofs.Ytgaafdfekgnccaa
open Go.RowKit
set_option linter.unusedVariables false
set_option linter.unusedSimpArgs false
set_option linter.unusedSectionVars false
set_option maxRecDepth 20000

theorem Has.write2 {ι : Type} [DecidableEq ι] {w w' : World} {base : Nat} {blk : ι → Nat} {c : ι → Option Row} (h : Has w base blk c) (r1 r2 : ι) (x1 x2 : Row) {y1 y2 : Row} (e1 : c r1 = some y1) (e2 : c r2 = some y2) (hne : r1 ≠ r2)
    (ht : Touch w w' (fun k => k = blk r1 ∨ k = blk r2)) (h1 : w'.rowIs (blk r1) x1.t x1.n x1.f) (h2 : w'.rowIs (blk r2) x2.t x2.n x2.f) : Has w' base blk (upd (upd c r1 (some x1)) r2 (some x2)) := by
  refine ⟨fun r r' x x' e e' hb => ?_, fun r x e => ?_, fun r x e => ?_⟩
  · have key : ∀ r x, upd (upd c r1 (some x1)) r2 (some x2) r = some x → ∃ y, c r = some y := by
      intro r x e
      by_cases hr2 : r = r2
      · subst hr2; exact ⟨_, e2⟩
      · rw [upd_other _ _ hr2] at e
        by_cases hr1 : r = r1
        · subst hr1; exact ⟨_, e1⟩
        · rw [upd_other _ _ hr1] at e; exact ⟨_, e⟩
    obtain ⟨y, hy⟩ := key r x e
    obtain ⟨y', hy'⟩ := key r' x' e'
    exact h.inj r r' y y' hy hy' hb
  · by_cases hr2 : r = r2
    · subst hr2; rw [upd_same] at e; cases e; exact h2
    · rw [upd_other _ _ hr2] at e
      by_cases hr1 : r = r1
      · subst hr1; rw [upd_same] at e; cases e; exact h1
      · rw [upd_other _ _ hr1] at e
        exact (h.row r x e).of_block (ht.block _ (h.lt e) (fun hk => by rcases hk with hk | hk; exact h.ne e e1 hr1 hk; exact h.ne e e2 hr2 hk))
  · by_cases hr2 : r = r2
    · subst hr2; exact h.new _ _ e2
    · rw [upd_other _ _ hr2] at e
      by_cases hr1 : r = r1
      · subst hr1; exact h.new _ _ e1
      · rw [upd_other _ _ hr1] at e; exact h.new _ _ e

theorem Good.isMem {K : Kd} {P : Par} {blk : Rl → Nat} {c : Rl → Option Row} {st : St K} {w : World} {base : Nat} (G : Good K P blk c st) (H : Has w base blk c) : IsMem w (blk .mem) (blk .words) P.n st.f :=
  ⟨H.row _ _ G.mem, H.row _ _ G.words, G.most, G.word⟩

theorem Grows.upd {blk : Rl → Nat} {c : Rl → Option Row} {r r' : Rl} {e : TypeId} {sz k : Nat} {xs : List Value} {v : Value} (h : Grows blk c r e sz k xs v) (hne : r ≠ r') (x : Option Row) (nb : Nat) : Grows (upd blk r' nb) (upd c r' x) r e sz k xs v := by
  unfold Grows at h ⊢
  rw [upd_other _ _ hne, upd_other _ _ hne]
  exact h
theorem Grows.upd' {blk : Rl → Nat} {c : Rl → Option Row} {r r' : Rl} {e : TypeId} {sz k : Nat} {xs : List Value} {v : Value} (h : Grows blk c r e sz k xs v) (hne : r ≠ r') (x : Option Row) : Grows blk (Ytgaafdfekgnccaa.upd c r' x) r e sz k xs v := by
  unfold Grows at h ⊢
  rw [upd_other _ _ hne]
  exact h

theorem info48z : (Try.prog.info? 122).map (fun i => (i.zero, i.size, i.bytes)) = some (some (.agg #[.int .i64 0, .int .i64 0, .int .i64 0, .int .u64 0, .int .u64 0, .bool false]), 6, 48) := by kernel_rfl
theorem info54z : (Try.prog.info? 53).map (fun i => (i.zero, i.size, i.bytes)) = some (some (.agg #[.bool false, .int .u64 0]), 2, 16) := by kernel_rfl

/-- An element laid in a new block of its own. -/
theorem cells_new (w : World) (vs : Array Value) (t : TypeId) : ∀ j u, vs.toList[j]? = some u → (w.alloc (.cells vs t)).cell? (Addr.add ⟨w.heap.size, 0, none⟩ j) = some u := by
  intro j u hj
  have hj' : vs[j]? = some u := by simpa using hj
  simp only [Addr.add, Nat.zero_add]
  by_cases h0 : j = 0
  · subst h0; simp [hj']
  · simp [h0, hj']
theorem step_one (x : Stp) : ∀ u ∈ x.cells, u.oneCell' = true := by
  intro u hu
  simp [Stp.cells] at hu
  rcases hu with rfl | rfl | rfl | rfl | rfl | rfl <;> rfl
theorem ans_one (x : Ans) : ∀ u ∈ x.cells, u.oneCell' = true := by
  intro u hu
  simp [Ans.cells] at hu
  rcases hu with rfl | rfl <;> rfl

theorem below_of_grown_none {a b : World} (h : a.grownBy b none) (B : Nat) (hB : B ≤ a.heap.size) : Below B a b := ⟨h.os, h.tape, h.output, h.size, fun k hk => h.block k (by omega) (by simp)⟩
end Go.Proofs.Ytgaafdfekgnccaa

/-
  middenref03's Run.Done, where the task goes on.
-/
namespace Go.Proofs.Ytgaafdfekgnccaa
open Go.RowKit
set_option linter.unusedVariables false
set_option linter.unusedSimpArgs false
set_option linter.unnecessarySimpa false
set_option maxRecDepth 20000
open Beg

variable {K : Kd} {rep : List Value → K.σ → Prop} {P : Par} {blk blk' : Rl → Nat} {c c' : Rl → Option Row} {st : St K} {un : Nat → Bool} {capw : Nat} {sv sv' : Value} {w : World} {base B : Nat} {aoh aos : Option Addr} {caph caps : Nat} {sh : Shp} {la : Int} {h : Nat} {x : Stp} {f' : Nat → Int} {cs : List Value}

/-- The run's own blocks. -/
def Own (blk : Rl → Nat) (c : Rl → Option Row) : Nat → Prop := fun k => ∃ r y, c r = some y ∧ blk r = k

def zRun : List Value := [.int .i64 0, .int .i64 0, .int .i64 0, .int .i64 0, .int .i64 0, .int .i64 0, .slice none 0 0, .slice none 0 0, .slice none 0 0, .slice none 0 0, .slice none 0 0, .slice none 0 0, .slice none 0 0, .slice none 0 0, .int .i64 0]

theorem cellOf {w : World} {base : Nat} {blk : Rl → Nat} {c : Rl → Option Row} {r : Rl} {t : TypeId} {n b i : Nat} {F : Nat → Value} {v : Value} (H : Has w base blk c) (e : c r = some ⟨t, n, F⟩) (hb : blk r = b) (hi : i < n) (hv : F i = v) : w.cell? ⟨b, i, none⟩ = some v := by
  subst hb; subst hv; exact H.cell e hi
theorem frozenOf {w : World} {base : Nat} {blk : Rl → Nat} {c : Rl → Option Row} {r : Rl} {y : Row} {b : Nat} (H : Has w base blk c) (e : c r = some y) (hb : blk r = b) (i : Nat) : w.frozen? ⟨b, i, none⟩ = false := by
  subst hb; exact H.frozen e i
theorem rangeOf {w : World} {base : Nat} {blk : Rl → Nat} {c : Rl → Option Row} {r : Rl} {t : TypeId} {n b : Nat} {F : Nat → Value} {l : List Value} (H : Has w base blk c) (e : c r = some ⟨t, n, F⟩) (hb : blk r = b) (hl : l.length = n) (hF : ∀ i v, l[i]? = some v → F i = v) : w.rangeAt b 0 l := fun j v hv => by
  have hj := (List.getElem?_eq_some_iff.1 hv).1
  rw [Nat.zero_add]
  exact cellOf H e hb (by omega) (hF j v hv)
theorem thereOf {w : World} {base : Nat} {blk : Rl → Nat} {c : Rl → Option Row} {r : Rl} {t : TypeId} {n b o m : Nat} {F : Nat → Value} (H : Has w base blk c) (e : c r = some ⟨t, n, F⟩) (hb : blk r = b) (hm : o + m ≤ n) : w.there b o m := by
  subst hb; exact rowIs.there (H.row _ _ e) hm
/-- A row of cells written into a role's block. -/
theorem Has.setCells {w : World} {base : Nat} {blk : Rl → Nat} {c : Rl → Option Row} {r : Rl} {t : TypeId} {n : Nat} {F : Nat → Value} (H : Has w base blk c) (e : c r = some ⟨t, n, F⟩) (o : Nat) (vs : List Value) :
    Has (w.setCells (blk r) o vs) base blk (upd c r (some ⟨t, n, fun i => if o ≤ i ∧ i < o + vs.length then vs[i - o]?.getD default else F i⟩)) :=
  H.write r _ e (touch_setCells _ _ _ _) (rowIs.setCells vs o w F (H.row _ _ e))
end Go.Proofs.Ytgaafdfekgnccaa
