/-
  The roles that a reference's run has, and no other; a frame of slots written out.
-/
import Derived.Test.YtdbiphibdaghkaaRDone4
import Derived.Test.YtdbiphibdaghkaaRTold
import Derived.Test.YtdbiphibdaghkaaRFits
import Derived.Test.YtdbiphibdaghkaaRReg
import Derived.Test.YtdbiphibdaghkaaActsAll
namespace Go.Proofs.Ytdbiphibdaghkaa
open Go.RowKit
set_option linter.unusedVariables false
set_option linter.unusedSimpArgs false
set_option linter.unnecessarySimpa false
set_option maxRecDepth 20000
open Beg

def cln (nh : Nat) (c : Rl → Option Row) : Rl → Option Row := fun r => match r with
  | .task _ _ => none
  | .trow _ => none
  | .arow h => if h < nh then c (.arow h) else none
  | r => c r

variable {K : Kd} {rep : List Value → K.σ → Prop} {P : Par} {blk : Rl → Nat} {c : Rl → Option Row} {st : St K} {un : Nat → Bool} {capw : Nat} {sv : Value} {w : World} {base : Nat}

theorem clean_sub {nh : Nat} {r : Rl} {x : Row} (h : cln nh c r = some x) : c r = some x := by
  cases r <;> simp [cln] at h <;> first | exact h | exact h.2
theorem Has.clean (h : Has w base blk c) (nh : Nat) : Has w base blk (cln nh c) := h.weaken (fun r x e => clean_sub e)
theorem RGood.clean (G : RGood K rep P blk c st un capw sv) : RGood K rep P blk (cln P.nh c) st un capw sv := by
  refine ⟨G.words, G.word, G.tasks, G.under, G.begun, G.kept, ?_, G.steps, G.doneLe, G.unLt, G.fresh, G.jobs, G.hands, G.jwf, G.lastOk⟩
  obtain ⟨A, eA, hA⟩ := G.answers
  refine ⟨A, eA, fun h hh => ?_⟩
  have := hA h hh
  unfold Grows at this ⊢
  simpa [cln, hh] using this
/-- None of them is a run's own variable. -/
theorem RGood.types (G : RGood K rep P blk c st un capw sv) : ∀ r x, cln P.nh c r = some x → x.t ≠ 90 ∧ x.t ≠ 28 ∧ x.t ≠ 42 := by
  intro r x e
  have grow : ∀ {r : Rl} {ty : TypeId} {sz k : Nat} {xs : List Value} {v : Value}, Grows blk c r ty sz k xs v → c r = some x → x.t = ty := fun {r ty sz k xs v} hg he => by
    rcases hg with ⟨_, _, h⟩ | ⟨cap, F, _, h, _⟩
    · rw [h] at he; cases he
    · rw [h] at he; cases he; rfl
  cases r with
  | mem => obtain ⟨Kf, h, _⟩ := G.kept; have e' : c .mem = some x := e; rw [h] at e'; cases e'; simp
  | words => obtain ⟨F, h, _⟩ := G.words; have e' : c .words = some x := e; rw [h] at e'; cases e'; simp
  | run => obtain ⟨F, h, _⟩ := G.begun; have e' : c .run = some x := e; rw [h] at e'; cases e'; simp
  | tasks => obtain ⟨F, h, _⟩ := G.tasks; have e' : c .tasks = some x := e; rw [h] at e'; cases e'; simp
  | going => obtain ⟨F, h, _⟩ := G.under; have e' : c .going = some x := e; rw [h] at e'; cases e'; simp
  | answers => obtain ⟨F, h, _⟩ := G.answers; have e' : c .answers = some x := e; rw [h] at e'; cases e'; simp
  | steps => have := grow G.steps e; rw [this]; simp
  | trow h => cases e
  | task h j => cases e
  | arow h =>
    simp only [cln] at e
    split at e
    · rename_i hh
      obtain ⟨A, _, hA⟩ := G.answers
      have := grow (hA h hh) e
      rw [this]; simp
    · cases e
theorem rowIs.ne {w : World} {b b' n n' : Nat} {t t' : TypeId} {f f' : Nat → Value} (h : w.rowIs b t n f) (h' : w.rowIs b' t' n' f') (ht : t ≠ t') : b ≠ b' := by
  rintro rfl
  obtain ⟨cc, h1, _⟩ := h
  obtain ⟨cc', h2, _⟩ := h'
  rw [h1] at h2
  cases h2
  exact ht rfl

/-- A frame, slot by slot. -/
theorem act_all (a : Act) (n : Nat) (hn : a.tmps.size = n) (hd : a.defers = []) : a = ⟨((List.range n).map fun k => a.eval (.tmp k)).toArray, []⟩ := by
  obtain ⟨tmps, defers⟩ := a
  simp only at hn hd
  subst hd
  congr 1
  apply Array.ext
  · simp [hn]
  · intro i h1 h2
    simp [Act.eval, h1]
end Go.Proofs.Ytdbiphibdaghkaa
