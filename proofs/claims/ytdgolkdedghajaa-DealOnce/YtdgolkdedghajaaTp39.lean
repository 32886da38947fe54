/-
  Lemmas: OpenR8.
-/
import Derived.Test.YtdgolkdedghajaaTp19
/-
  The statements' Run of layer 5, opened.
-/
namespace Go.Proofs.Ytdgolkdedghajaa
open Go.ChangeShapes Go.WideShapes Go.ChangeAt Go.RowKit Go.Deep
set_option linter.unusedVariables false
set_option linter.unusedSimpArgs false
set_option maxRecDepth 100000

theorem ncellsR5 : Try.prog.cellsOf 28 = 10 := by kernel_rfl

set_option maxRecDepth 4000 in
theorem open_run8 {H : Type} {enc : TypeId × Value → H} {W : World} {base : Nat} {v : Value} {d : DataW H} {p : List MemPlace} (hv : Value.okWide Try.prog W .any base 28 v) (h : DataW.Trod enc Try.prog W 0 (fun _ => true) true 28 v d p) :
    ∃ (sh : Shp) (ao : Option Addr) (n cap : Nat) (f : Nat → Int) (aoh : Option Addr) (nh caph : Nat) (jn : Nat → Nat) (jb : Nat → Nat → Jb) (aos : Option Addr) (ns caps : Nat) (s : Nat → Int) (most : Int),
      v = .agg #[.int .i64 sh.a, .int .i64 sh.b, .int .i64 sh.c, .int .i64 sh.d, .int .i64 sh.e, .int .i64 sh.f, .slice ao n cap, .slice aoh nh caph, .slice aos ns caps, .int .i64 most] ∧
      (ao = none → n = 0 ∧ cap = 0) ∧ n ≤ maxLen ∧ Sees W W.heap.size ao n f ∧ (∀ i, i < n → 0 ≤ f i ∧ f i ≤ 18446744073709551615) ∧ nh ≤ maxLen ∧ SeesH W W.heap.size aoh nh jn jb ∧ (∀ h, h < nh → ∀ j, j < jn h → (jb h j).wf) ∧ SeesI W W.heap.size aos ns s := by
  obtain ⟨cs, rfl, hsz⟩ := okWide_struct Try.underlying28 hv
  rw [ncellsR5] at hsz
  obtain ⟨l⟩ := cs
  obtain ⟨c0, c1, c2, c3, c4, c5, c6, c7, c8, c9, rfl⟩ := list10 hsz
  obtain ⟨fuel, hf⟩ := h
  obtain ⟨xs, m, _, hx, _, hl, hel⟩ := DataW.trod_struct Try.underlying28 hf
  obtain ⟨y0, y1, y2, y3, y4, rfl⟩ := list5' hl
  have q0 := hel 0 _ rfl
  have q1 := hel 1 _ rfl
  have q2 := hel 2 _ rfl
  have q3 := hel 3 _ rfl
  have q4 := hel 4 _ rfl
  simp [ncellsSh, ncellsW, ncellsH, ncellsI, ncells3, Value.cells] at q0 q1 q2 q3 q4
  obtain ⟨sh, e0⟩ := shape_t rfl q0
  obtain ⟨ao, n, cap, f, e1, a1, a2, a3, a4⟩ := words_t q1
  obtain ⟨aoh, nh, caph, jn, jb, e2, b1, b2, b3⟩ := hands_t q2
  obtain ⟨aos, ns, caps, s, e3, d1, d2⟩ := nums_t q3
  obtain ⟨most, e4, _, _⟩ := DataW.trod_int Try.underlying3 q4
  simp at e0 e1 e2 e3 e4
  obtain ⟨rfl, rfl, rfl, rfl, rfl, rfl⟩ := e0
  subst e1 e2 e3 e4
  exact ⟨sh, ao, n, cap, f, aoh, nh, caph, jn, jb, aos, ns, caps, s, most, rfl, a1, a2, a3, a4, b1, b2, b3, d2⟩
end Go.Proofs.Ytdgolkdedghajaa
