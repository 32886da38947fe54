/-
  Lemmas: RDone, RDone2.
-/
import Derived.Test.YtchhkoalibapiaaTp10
import Derived.Deep.RegionLaw
import Derived.Deep.AppendLies
import Derived.Test.YtchhkoalibapiaaTp05
/-
  The reference's run behind a step.
-/
namespace Go.Proofs.Ytchhkoalibapiaa
open Go.RowKit
set_option linter.unusedVariables false
set_option linter.unusedSimpArgs false
set_option linter.unnecessarySimpa false
set_option maxRecDepth 20000
open Beg

variable {K : Kd} {rep : List Value → K.σ → Prop} {P : Par} {blk blk' : Rl → Nat} {c c' : Rl → Option Row} {st : St K} {un : Nat → Bool} {capw : Nat} {sv sv' : Value} {w : World} {base B : Nat} {aoh aos : Option Addr} {caph caps : Nat} {sh : Shp} {la : Int} {h : Nat} {x : Stp} {f' : Nat → Int} {cs : List Value}

/-- With the words of a step, all else as it was. -/
def St.with (st : St K) (f' : Nat → Int) : St K := { st with f := f' }

/-- A step behind which the task goes on. -/
theorem RGood.goesOn (G : RGood K rep P blk c (st.with f') un capw sv) (hh : h < P.nh) (hu : un h = true) (hx : stepOf P.n st.f (K.req (st.cur h)) = x) (hf : wordsOf P.n st.f (K.req (st.cur h)) = f')
    (hend : ¬ K.ends (st.cur h) x = true) (hk : IsTk cs) (hrep : rep cs (K.next (st.cur h) x))
    (hb : ∀ r, r ≠ .steps → blk' r = blk r) (hc : ∀ r, r ≠ .tasks → r ≠ .steps → c' r = c r) {T T' : Nat → Value} (eT : c .tasks = some ⟨84, P.nh * 28, T⟩) (eT' : c' .tasks = some ⟨84, P.nh * 28, T'⟩)
    (hT1 : ∀ i, ¬ (h * 28 ≤ i ∧ i < h * 28 + 28) → T' i = T i) (hT2 : ∀ i u, cs[i]? = some u → T' (h * 28 + i) = u)
    (GS : Grows blk' c' .steps 57 6 (st.k + 1) (stepCells st.s st.k ++ x.cells) sv') : RGood K rep P blk' c' (stepSt P st h) un capw sv' := by
  have hdone : (stepSt P st h).done = st.done := by simp only [stepSt, hx]; rw [if_neg hend]
  have hans : (stepSt P st h).ans = st.ans := by simp only [stepSt, hx]; rw [if_neg hend]
  have hcur : (stepSt P st h).cur = upd st.cur h (K.next (st.cur h) x) := by simp only [stepSt, hx]; rw [if_neg hend]
  have hf2 : (stepSt P st h).f = f' := by simp only [stepSt, hf]
  refine ⟨?_, ?_, ?_, ?_, ?_, ?_, ?_, ?_, ?_, ?_, ?_, G.jobs, G.hands, G.jwf, ?_⟩
  · rw [hc _ (by simp) (by simp), hf2]; exact G.words
  · rw [hf2]; exact G.word
  · obtain ⟨T0, eT0, hT0⟩ := G.tasks
    obtain rfl : T = T0 := by rw [eT] at eT0; cases eT0; rfl
    refine ⟨T', eT', fun i hi hui => ?_⟩
    rw [hcur]
    by_cases hih : i = h
    · subst hih; rw [upd_same]; exact ⟨cs, hk, hT2, hrep⟩
    · rw [upd_other _ _ hih]
      obtain ⟨cs', h1, h2, h3⟩ := hT0 i hi hui
      refine ⟨cs', h1, fun j u hu' => ?_, h3⟩
      have hj : j < 28 := by have := (List.getElem?_eq_some_iff.1 hu').1; have := h1.1; omega
      rw [hT1 _ (by omega)]; exact h2 j u hu'
  · rw [hc _ (by simp) (by simp)]; exact G.under
  · rw [hc _ (by simp) (by simp), hdone]; exact G.begun
  · rw [hc _ (by simp) (by simp)]; exact G.kept
  · obtain ⟨A, eA, hA⟩ := G.answers
    rw [hdone, hans]
    exact ⟨A, by rw [hc _ (by simp) (by simp)]; exact eA, fun i hi => by have := hA i hi; unfold Grows at this ⊢; rw [hc _ (by simp) (by simp), hb _ (by simp)]; exact this⟩
  · have : stepCells (stepSt P st h).s (stepSt P st h).k = stepCells st.s st.k ++ x.cells := by
      simp only [stepSt, hx, stepCells, upd_same]
      rw [stepCells_congr (b := st.s) (fun j hj => upd_other _ _ (by omega))]
    rw [this]; exact GS
  · rw [hdone]; exact G.doneLe
  · rw [hdone]; exact G.unLt
  · rw [hdone, hcur]
    intro i hi hui hl
    have hih : i ≠ h := by rintro rfl; rw [hu] at hui; cases hui
    rw [upd_other _ _ hih]; exact G.fresh i hi hui hl
  · simp only [stepSt]; omega

/-- A step behind which the task has ended. -/
theorem RGood.ended (G : RGood K rep P blk c (st.with f') un capw sv) (hh : h < P.nh) (hu : un h = true) (hx : stepOf P.n st.f (K.req (st.cur h)) = x) (hf : wordsOf P.n st.f (K.req (st.cur h)) = f')
    (hend : K.ends (st.cur h) x = true)
    (hb : ∀ r, r ≠ .steps → r ≠ .arow h → blk' r = blk r) (hc : ∀ r, r ≠ .tasks → r ≠ .steps → r ≠ .arow h → r ≠ .going → r ≠ .mem → r ≠ .answers → c' r = c r) {T T' : Nat → Value} (eT : c .tasks = some ⟨84, P.nh * 28, T⟩) (eT' : c' .tasks = some ⟨84, P.nh * 28, T'⟩)
    (hT1 : ∀ i, ¬ (h * 28 ≤ i ∧ i < h * 28 + 28) → T' i = T i)
    {U U' : Nat → Value} (eU : c .going = some ⟨4, P.nh, U⟩) (eU' : c' .going = some ⟨4, P.nh, U'⟩) (hU' : ∀ i, U' i = if i = h then .bool false else U i)
    {Kf' : Nat → Value} (eK' : c' .mem = some ⟨82, P.nh * 4, Kf'⟩) (hK' : ∀ i, i < P.nh * 4 → Kf' i = .int .u64 0)
    {A A' : Nat → Value} (eA : c .answers = some ⟨63, P.nh, A⟩) (eA' : c' .answers = some ⟨63, P.nh, A'⟩) (hA' : ∀ i, i ≠ h → A' i = A i)
    (hAh : Grows blk' c' (.arow h) 65 2 (st.done h + 1) (ansCells (st.ans h) (st.done h) ++ (K.tell (K.next (st.cur h) x)).cells) (A' h))
    (GS : Grows blk' c' .steps 57 6 (st.k + 1) (stepCells st.s st.k ++ x.cells) sv') : RGood K rep P blk' c' (stepSt P st h) (upd un h false) capw sv' := by
  have hd := G.unLt h hh hu
  replace hd : st.done h < P.jn h := hd
  have hdone : (stepSt P st h).done = upd st.done h (st.done h + 1) := by simp only [stepSt, hx]; rw [if_pos hend]
  have hans : (stepSt P st h).ans = upd st.ans h (upd (st.ans h) (st.done h) (K.tell (K.next (st.cur h) x))) := by simp only [stepSt, hx]; rw [if_pos hend]
  have hcur : (stepSt P st h).cur = upd st.cur h (K.init h (P.jb h (st.done h + 1))) := by simp only [stepSt, hx]; rw [if_pos hend]
  have hf2 : (stepSt P st h).f = f' := by simp only [stepSt, hf]
  refine ⟨?_, ?_, ?_, ?_, ?_, ⟨Kf', eK', hK'⟩, ?_, ?_, ?_, ?_, ?_, G.jobs, G.hands, G.jwf, ?_⟩
  · rw [hc _ (by simp) (by simp) (by simp) (by simp) (by simp) (by simp), hf2]; exact G.words
  · rw [hf2]; exact G.word
  · obtain ⟨T0, eT0, hT0⟩ := G.tasks
    obtain rfl : T = T0 := by rw [eT] at eT0; cases eT0; rfl
    refine ⟨T', eT', fun i hi hui => ?_⟩
    have hih : i ≠ h := by rintro rfl; rw [upd_same] at hui; cases hui
    rw [upd_other _ _ hih] at hui
    rw [hcur, upd_other _ _ hih]
    obtain ⟨cs', h1, h2, h3⟩ := hT0 i hi hui
    refine ⟨cs', h1, fun j u hu' => ?_, h3⟩
    have hj : j < 28 := by have := (List.getElem?_eq_some_iff.1 hu').1; have := h1.1; omega
    rw [hT1 _ (by omega)]; exact h2 j u hu'
  · obtain ⟨U0, eU0, hU0⟩ := G.under
    obtain rfl : U = U0 := by rw [eU] at eU0; cases eU0; rfl
    refine ⟨U', eU', fun i hi => ?_⟩
    rw [hU' i]
    by_cases hih : i = h
    · subst hih; rw [if_pos rfl, upd_same]
    · rw [if_neg hih, upd_other _ _ hih]; exact hU0 i hi
  · obtain ⟨B0, eB0, hB0⟩ := G.begun
    refine ⟨B0, by rw [hc _ (by simp) (by simp) (by simp) (by simp) (by simp) (by simp)]; exact eB0, fun i hi => ?_⟩
    rw [hB0 i hi, hdone]
    by_cases hih : i = h
    · subst hih; simp [hu, St.with]
    · rw [upd_other _ _ hih, upd_other _ _ hih]; rfl
  · obtain ⟨A0, eA0, hA0⟩ := G.answers
    obtain rfl : A = A0 := by rw [eA] at eA0; cases eA0; rfl
    refine ⟨A', eA', fun i hi => ?_⟩
    rw [hdone, hans]
    by_cases hih : i = h
    · subst hih
      rw [upd_same, upd_same]
      have : ansCells (upd (st.ans i) (st.done i) (K.tell (K.next (st.cur i) x))) (st.done i + 1) = ansCells (st.ans i) (st.done i) ++ (K.tell (K.next (st.cur i) x)).cells := by
        simp only [ansCells, upd_same]
        rw [ansCells_congr (b := st.ans i) (fun j hj => upd_other _ _ (by omega))]
      rw [this]; exact hAh
    · rw [upd_other _ _ hih, upd_other _ _ hih, hA' i hih]
      have := hA0 i hi
      unfold Grows at this ⊢
      rw [hc _ (by simp) (by simp) (by simp [hih]) (by simp) (by simp) (by simp), hb _ (by simp) (by simp [hih])]
      exact this
  · have : stepCells (stepSt P st h).s (stepSt P st h).k = stepCells st.s st.k ++ x.cells := by
      simp only [stepSt, hx, stepCells, upd_same]
      rw [stepCells_congr (b := st.s) (fun j hj => upd_other _ _ (by omega))]
    rw [this]; exact GS
  · intro i hi
    rw [hdone]
    by_cases hih : i = h
    · subst hih; rw [upd_same]; omega
    · rw [upd_other _ _ hih]; exact G.doneLe i hi
  · intro i hi hui
    have hih : i ≠ h := by rintro rfl; rw [upd_same] at hui; cases hui
    rw [upd_other _ _ hih] at hui
    rw [hdone, upd_other _ _ hih]; exact G.unLt i hi hui
  · rw [hdone, hcur]
    intro i hi hui hl
    by_cases hih : i = h
    · subst hih; rw [upd_same, upd_same]
    · rw [upd_other _ _ hih] at hui hl ⊢
      rw [upd_other _ _ hih]
      exact G.fresh i hi hui hl
  · simp only [stepSt]; omega

/-- Without what was lent to the roles of single tasks. -/
def bare (c : Rl → Option Row) : Rl → Option Row := fun r => match r with | .task _ _ => none | r => c r
theorem bare_of {c : Rl → Option Row} {r : Rl} (h : ∀ a b, r ≠ .task a b) : bare c r = c r := by
  cases r <;> first | rfl | exact absurd rfl (h _ _)
theorem Has.bare {w : World} {base : Nat} {blk : Rl → Nat} {c : Rl → Option Row} (h : Has w base blk c) : Has w base blk (bare c) := h.weaken (fun r x e => by
  cases r <;> first | exact e | cases e)
theorem RGood.bare (G : RGood K rep P blk c st un capw sv) : RGood K rep P blk (bare c) st un capw sv :=
  ⟨G.words, G.word, G.tasks, G.under, G.begun, G.kept, G.answers, G.steps, G.doneLe, G.unLt, G.fresh, G.jobs, G.hands, G.jwf, G.lastOk⟩

def lrow (l : List Value) : Nat → Value := fun i => l[i]?.getD default
theorem lrow_of {l : List Value} {i : Nat} {v : Value} (h : l[i]? = some v) : lrow l i = v := by simp [lrow, h]

theorem boxes {w : World} {base : Nat} {blk : Rl → Nat} {c : Rl → Option Row} (H : Has w base blk c) (hb : base ≤ w.heap.size) (l0 l1 l2 l3 : List Value) (t0 t1 t2 t3 : TypeId) :
    Has ((((w.alloc (.cells l0.toArray t0)).alloc (.cells l1.toArray t1)).alloc (.cells l2.toArray t2)).alloc (.cells l3.toArray t3)) base
      (upd (upd (upd (upd blk (.task 0 0) w.heap.size) (.task 0 1) (w.heap.size + 1)) (.task 0 2) (w.heap.size + 2)) (.task 0 3) (w.heap.size + 3))
      (upd (upd (upd (upd (bare c) (.task 0 0) (some ⟨t0, l0.length, lrow l0⟩)) (.task 0 1) (some ⟨t1, l1.length, lrow l1⟩)) (.task 0 2) (some ⟨t2, l2.length, lrow l2⟩)) (.task 0 3) (some ⟨t3, l3.length, lrow l3⟩)) := by
  have row : ∀ (w : World) (l : List Value) (t : TypeId), (w.alloc (.cells l.toArray t)).rowIs w.heap.size t l.length (lrow l) := fun w l t => World.rowIs_alloc' w l.toArray t l.length (by simp) (fun i hi => by simp [lrow, hi])
  have one : ∀ {w : World} {blk : Rl → Nat} {c : Rl → Option Row} (H : Has w base blk c) (hb : base ≤ w.heap.size) (r : Rl) (l : List Value) (t : TypeId) {n : Nat}, w.heap.size = n → Has (w.alloc (.cells l.toArray t)) base (upd blk r n) (upd c r (some ⟨t, l.length, lrow l⟩)) := fun {w} {blk} {c} H hb r l t {n} hn => by
    subst hn
    exact H.add r w.heap.size _ hb (Nat.le_refl _) (S := fun _ => False) ((Touch.refl w _).alloc _) (fun _ _ _ _ => id) (row w l t)
  exact one (one (one (one H.bare hb _ l0 t0 rfl) (by simp; omega) _ l1 t1 (by simp)) (by simp; omega) _ l2 t2 (by simp)) (by simp; omega) _ l3 t3 (by simp)
end Go.Proofs.Ytchhkoalibapiaa

/-
  middenref03's Run.Done, where the task goes on.
-/
namespace Go.Proofs.Ytchhkoalibapiaa
open Go.RowKit
set_option linter.unusedVariables false
set_option linter.unusedSimpArgs false
set_option linter.unnecessarySimpa false
set_option maxRecDepth 20000
open Beg

variable {K : Kd} {rep : List Value → K.σ → Prop} {P : Par} {blk blk' : Rl → Nat} {c c' : Rl → Option Row} {st : St K} {un : Nat → Bool} {capw : Nat} {sv sv' : Value} {w : World} {base B : Nat} {aoh aos : Option Addr} {caph caps : Nat} {sh : Shp} {la : Int} {h : Nat} {x : Stp} {f' : Nat → Int} {cs : List Value}

/-- The run's own blocks. -/
def Own (blk : Rl → Nat) (c : Rl → Option Row) : Nat → Prop := fun k => ∃ r y, c r = some y ∧ blk r = k

def zRun : List Value := [.int .i64 0, .int .i64 0, .int .i64 0, .int .i64 0, .int .i64 0, .int .i64 0, .slice none 0 0, .slice none 0 0, .slice none 0 0, .slice none 0 0, .slice none 0 0, .slice none 0 0, .slice none 0 0, .slice none 0 0, .int .i64 0]

theorem cellOf {w : World} {base : Nat} {blk : Rl → Nat} {c : Rl → Option Row} {r : Rl} {t : TypeId} {n b i : Nat} {F : Nat → Value} {v : Value} (H : Has w base blk c) (e : c r = some ⟨t, n, F⟩) (hb : blk r = b) (hi : i < n) (hv : F i = v) : w.cell? ⟨b, i, none⟩ = some v := by
  subst hb; subst hv; exact H.cell e hi
theorem frozenOf {w : World} {base : Nat} {blk : Rl → Nat} {c : Rl → Option Row} {r : Rl} {y : Row} {b : Nat} (H : Has w base blk c) (e : c r = some y) (hb : blk r = b) (i : Nat) : w.frozen? ⟨b, i, none⟩ = false := by
  subst hb; exact H.frozen e i
theorem rangeOf {w : World} {base : Nat} {blk : Rl → Nat} {c : Rl → Option Row} {r : Rl} {t : TypeId} {n b : Nat} {F : Nat → Value} {l : List Value} (H : Has w base blk c) (e : c r = some ⟨t, n, F⟩) (hb : blk r = b) (hl : l.length = n) (hF : ∀ i v, l[i]? = some v → F i = v) : w.rangeAt b 0 l := fun j v hv => by
  have hj := (List.getElem?_eq_some_iff.1 hv).1
  rw [Nat.zero_add]
  exact cellOf H e hb (by omega) (hF j v hv)
theorem thereOf {w : World} {base : Nat} {blk : Rl → Nat} {c : Rl → Option Row} {r : Rl} {t : TypeId} {n b o m : Nat} {F : Nat → Value} (H : Has w base blk c) (e : c r = some ⟨t, n, F⟩) (hb : blk r = b) (hm : o + m ≤ n) : w.there b o m := by
  subst hb; exact rowIs.there (H.row _ _ e) hm
/-- A row of cells written into a role's block. -/
theorem Has.setCells {w : World} {base : Nat} {blk : Rl → Nat} {c : Rl → Option Row} {r : Rl} {t : TypeId} {n : Nat} {F : Nat → Value} (H : Has w base blk c) (e : c r = some ⟨t, n, F⟩) (o : Nat) (vs : List Value) :
    Has (w.setCells (blk r) o vs) base blk (upd c r (some ⟨t, n, fun i => if o ≤ i ∧ i < o + vs.length then vs[i - o]?.getD default else F i⟩)) :=
  H.write r _ e (touch_setCells _ _ _ _) (rowIs.setCells vs o w F (H.row _ _ e))
end Go.Proofs.Ytchhkoalibapiaa
