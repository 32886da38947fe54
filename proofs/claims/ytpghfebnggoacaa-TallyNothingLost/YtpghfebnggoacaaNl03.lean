/-
  TallyNothingLost: whatever shape, words, hands, schedule and bound are handed in, behind a run of the tally that has ended each stripe has grown by all that was counted there, and each greatest is the greatest one: the law answers true, and the input reads as it did. No condition beyond the row's.
-/
import Derived.Test.YtpghfebnggoacaaTp29
import Derived.Test.YtpghfebnggoacaaNl02
/-
  The statements' Run of layer 5, opened.
-/
namespace Go.Proofs.Ytpghfebnggoacaa
open Go.ChangeShapes Go.WideShapes Go.ChangeAt Go.RowKit Go.Deep
set_option linter.unusedVariables false
set_option linter.unusedSimpArgs false
set_option maxRecDepth 100000

theorem ncellsR5 : Try.prog.cellsOf 76 = 10 := by kernel_rfl

set_option maxRecDepth 4000 in
theorem open_run5 {H : Type} {enc : TypeId × Value → H} {W : World} {base : Nat} {v : Value} {d : DataW H} {p : List MemPlace} (hv : Value.okWide Try.prog W .any base 76 v) (h : DataW.Trod enc Try.prog W 0 (fun _ => true) true 76 v d p) :
    ∃ (sh : Shp) (ao : Option Addr) (n cap : Nat) (f : Nat → Int) (aoh : Option Addr) (nh caph : Nat) (jn : Nat → Nat) (jb : Nat → Nat → Jb) (aos : Option Addr) (ns caps : Nat) (s : Nat → Int) (most : Int),
      v = .agg #[.int .i64 sh.a, .int .i64 sh.b, .int .i64 sh.c, .int .i64 sh.d, .int .i64 sh.e, .int .i64 sh.f, .slice ao n cap, .slice aoh nh caph, .slice aos ns caps, .int .i64 most] ∧
      (ao = none → n = 0 ∧ cap = 0) ∧ n ≤ maxLen ∧ Sees W W.heap.size ao n f ∧ (∀ i, i < n → 0 ≤ f i ∧ f i ≤ 18446744073709551615) ∧ nh ≤ maxLen ∧ SeesH W W.heap.size aoh nh jn jb ∧ (∀ h, h < nh → ∀ j, j < jn h → (jb h j).wf) ∧ SeesI W W.heap.size aos ns s := by
  obtain ⟨cs, rfl, hsz⟩ := okWide_struct Try.underlying76 hv
  rw [ncellsR5] at hsz
  obtain ⟨l⟩ := cs
  obtain ⟨c0, c1, c2, c3, c4, c5, c6, c7, c8, c9, rfl⟩ := list10 hsz
  obtain ⟨fuel, hf⟩ := h
  obtain ⟨xs, m, _, hx, _, hl, hel⟩ := DataW.trod_struct Try.underlying76 hf
  obtain ⟨y0, y1, y2, y3, y4, rfl⟩ := list5' hl
  have q0 := hel 0 _ rfl
  have q1 := hel 1 _ rfl
  have q2 := hel 2 _ rfl
  have q3 := hel 3 _ rfl
  have q4 := hel 4 _ rfl
  simp [ncellsSh, ncellsW, ncellsH, ncellsI, ncells3, Value.cells] at q0 q1 q2 q3 q4
  obtain ⟨sh, e0⟩ := shape_t rfl q0
  obtain ⟨ao, n, cap, f, e1, a1, a2, a3, a4⟩ := words_t q1
  obtain ⟨aoh, nh, caph, jn, jb, e2, b1, b2, b3⟩ := hands_t q2
  obtain ⟨aos, ns, caps, s, e3, d1, d2⟩ := nums_t q3
  obtain ⟨most, e4, _, _⟩ := DataW.trod_int Try.underlying3 q4
  simp at e0 e1 e2 e3 e4
  obtain ⟨rfl, rfl, rfl, rfl, rfl, rfl⟩ := e0
  subst e1 e2 e3 e4
  exact ⟨sh, ao, n, cap, f, aoh, nh, caph, jn, jb, aos, ns, caps, s, most, rfl, a1, a2, a3, a4, b1, b2, b3, d2⟩
end Go.Proofs.Ytpghfebnggoacaa

/-
  TallyNothingLost: whatever shape, words, hands, schedule and bound are handed in, behind a run of the tally that has ended each stripe has grown by all that was counted there, and each greatest is the greatest one: the law answers true, and the input reads as it did. No condition beyond the row's.
-/
namespace Go.Proofs.Ytpghfebnggoacaa
open Go.ChangeShapes Go.WideShapes Go.ChangeAt Go.RowKit Go.Deep
set_option linter.unusedVariables false
set_option linter.unusedSimpArgs false
set_option maxRecDepth 100000
namespace TNothingLaw

theorem list1' {α : Type} {l : List α} (h : l.length = 1) : ∃ a, l = [a] := by
  match l, h with
  | [a], _ => exact ⟨a, rfl⟩

theorem isLaw : Lift.IsLaw Rows.tallyNothingLostSpec 1 := ⟨rfl, fun H ds h => by obtain ⟨a, rfl⟩ := list1' h; rfl⟩

theorem lifted (os : Os) (started : os.Started) (H : Type) (enc : TypeId × Value → H) :
    ReturnsInHanded {} Try.checked os 8 .any (Rows.tallyNothingLostSpec.pre6 enc Try.prog Try.f8 Rows.tallyNothingLostRow.domain false) (Rows.tallyNothingLostSpec.post enc Try.prog Try.f8 false true false false) := by
  refine returnsInHanded_of_change_sized (C := Try.checked) Lift.own started (by kernel_rfl) Try.func8
    (ChangeSpec.witness6 (enc := enc) (C := Try.checked) false ⟨#[], #[.agg #[.int .i64 0, .int .i64 0, .int .i64 0, .int .i64 0, .int .i64 0, .int .i64 0, .slice none 0 0, .slice none 0 0, .slice none 0 0, .int .i64 0]], []⟩ 8 (by kernel_rfl) (by kernel_rfl) (by kernel_rfl) (by kernel_rfl)) ?_
  intro W base args ds gs before hval0 hW hcnd hsz0 _
  have hgs : gs = [] := by
    obtain ⟨_, _, _, hV, _⟩ := hW
    exact (trodVars_none hV).1
  subst hgs
  refine Lift.contract enc (tb := 4) isLaw (by kernel_rfl) (by kernel_rfl) Try.underlying4 W args ds [] before hW ?_
  intro p hA0
  have hval : ∀ (j : Nat) t v, Try.f8.params[j]? = some t → args[j]? = some v → Value.okWide Try.prog W .any base t v := hval0
  have hA : DataW.TrodAll enc Try.prog W 0 (fun _ => true) true Try.f8.params.toList args.toList ds p := hA0
  rw [Try.params8] at hA hval
  obtain ⟨v0, vs0, d0, ds0, p0, q0, hargs0, rfl, rfl, k0, hA1⟩ := trodAll_cons hA
  obtain ⟨rfl, rfl, rfl⟩ := trodAll_nil hA1
  obtain rfl : args = #[v0] := by cases args; simp_all
  obtain ⟨sh, ao, n, cap, f, aoh, nh, caph, jn, jb, aos, ns, caps, sch, most, rfl, hnil, _, hs, hf, hn63, hh, hjw, hi⟩ := open_run5 (hval 0 76 v0 rfl rfl) k0
  exact Tally.nothing_walk (P := ⟨n, nh, jn, jb, ns, sch⟩) hs hnil hf hh (by unfold maxLen at hn63; omega) hi hjw
end TNothingLaw

theorem tallyNothingLost_holds : Rows.TallyNothingLostSaid :=
  OpenClaim.holds_of_wide 8 Try.f8 rfl rfl rfl rfl rfl rfl rfl ⟨rfl, rfl, rfl, rfl, rfl⟩ rfl rfl rfl rfl rfl (by kernel_rfl) Try.func8 (by kernel_rfl)
    (of_decide_eq_true (by kernel_rfl)) (by unfold Func.isWrapper; first | (rw [if_pos (by decide +kernel)]; kernel_rfl) | (rw [if_neg (by decide +kernel)]; exact ⟨rfl, rfl⟩))
    (fun os started H enc _ => TNothingLaw.lifted os started H enc)
#print axioms tallyNothingLost_holds
end Go.Proofs.Ytpghfebnggoacaa
