/-
  Lemmas: RGN.
-/
import Derived.Test.YtdflicgjkleonaaTp19
/-
  A drawn region with one act whose step goes into a variable made ahead, and calls beside it that make memory of their own.
-/
namespace Go.Proofs.Ytdflicgjkleonaa
open Go.RowKit
set_option linter.unusedVariables false
set_option linter.unusedSimpArgs false
namespace RG

/-- c: the act is done; se: its step is told into block E. -/
structure SN (I : Bool → World → Prop) (B E : Nat) (X : Stp) (c se : Bool) (w : World) : Prop where
  inv : I c w
  le : B ≤ w.heap.size
  thr : w.there E 0 X.cells.length
  sto : se = true → w.rangeAt E 0 X.cells
  dep : se = true → c = true

section
variable {I : Bool → World → Prop} {B E : Nat} {X : Stp} {c se : Bool} {w w' : World}

theorem SN.start (h : I false w) (hB : B ≤ w.heap.size) (hE : w.there E 0 X.cells.length) : SN I B E X false false w :=
  ⟨h, hB, hE, fun h => (by cases h), fun h => (by cases h)⟩
theorem SN.skip {L : Nat → Bool} {i kc is : Nat} (h1 : kc ≠ i) (h2 : is ≠ i) (h : SN I B E X (L kc) (L is) w) : SN I B E X (upd L i true kc) (upd L i true is) w := by
  rwa [upd_other _ _ h1, upd_other _ _ h2]
theorem SN.grow (hI : ∀ c w w', Below B w w' → B ≤ w.heap.size → I c w → I c w') (hE : E < B) (h : SN I B E X c se w) (hb : Below B w w') : SN I B E X c se w' :=
  ⟨hI c w w' hb h.le h.inv, Nat.le_trans h.le hb.size, there_block h.thr (hb.block E hE), fun hs => rangeAt_block (h.sto hs) (hb.block E hE), h.dep⟩
theorem SN.calls {fd : FuncId} {args : Array Value} {kc is : Nat} (hc : ∀ w, I false w → B ≤ w.heap.size → Calls Try.prog fd args w fun e w' => e = .returned X.val ∧ I true w' ∧ w'.heap[E]? = w.heap[E]? ∧ B ≤ w'.heap.size) (n2 : is ≠ kc) :
    ∀ (L : Nat → Bool) (v : Value) w, SN I B E X (L kc) (L is) w → L kc = false → Calls Try.prog fd args w fun e w' => e = .returned X.val ∧ SN I B E X (upd L kc true kc) (upd L kc true is) w' := by
  intro L v w h hL
  have hi := h.inv
  rw [hL] at hi
  refine (hc w hi h.le).mono ?_
  rintro e w' ⟨rfl, h1, h2, h3⟩
  rw [upd_same, upd_other _ _ n2]
  have hs : L is = false := by
    cases hs : L is with
    | false => rfl
    | true => have := h.dep hs; rw [hL] at this; cases this
  rw [hs]
  exact ⟨rfl, h1, h3, there_block h.thr h2, fun h => (by cases h), fun h => (by cases h)⟩
theorem SN.put (hI : ∀ c w w', Touch w w' (fun k => k = E) → I c w → I c w') (h : SN I B E X c se w) (hc : c = true) : w.there E 0 X.cells.length ∧ SN I B E X c true (w.setCells E 0 X.cells) := by
  have tt := touch_setCells E X.cells 0 w
  exact ⟨h.thr, hI c w _ tt h.inv, Nat.le_trans h.le tt.size, World.there_setCells h.thr _ _ _, fun _ => World.rangeAt_setCells_same w E 0 X.cells h.thr, fun _ => hc⟩
end
end RG
end Go.Proofs.Ytdflicgjkleonaa
