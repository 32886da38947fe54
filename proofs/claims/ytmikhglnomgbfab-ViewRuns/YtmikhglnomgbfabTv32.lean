/-
  ViewRuns: whatever shape, words, hands, schedule and place are handed in: a fresh memory of a right shape is sound; the steps of a run of acts lead by Replay from the words at its beginning to those at its end, at once or in two parts. The law ViewRuns of layer 13 answers true, and the input reads as it did.
  Conditions: none beyond the given row's own.
-/
import Derived.Test.YtmikhglnomgbfabTv31
import Derived.Test.YtmikhglnomgbfabTv18
/-
  ViewRuns: whatever shape, words, hands, schedule and place are handed in: a fresh memory of a right shape is sound; the steps of a run of acts lead by Replay from the words at its beginning to those at its end, at once or in two parts. The law ViewRuns of layer 13 answers true, and the input reads as it did.
  Conditions: none beyond the given row's own.
-/
namespace Go.Proofs.Ytmikhglnomgbfab
open Go.ChangeShapes Go.WideShapes Go.ChangeAt Go.RowKit Go.Deep
set_option linter.unusedVariables false
set_option linter.unusedSimpArgs false
set_option maxRecDepth 100000
namespace VRunsLaw
theorem list2' {α : Type} {l : List α} (h : l.length = 2) : ∃ a b, l = [a, b] := by
  match l, h with
  | [a, b], _ => exact ⟨a, b, rfl⟩
theorem list4' {α : Type} {l : List α} (h : l.length = 4) : ∃ a b c d, l = [a, b, c, d] := by
  match l, h with
  | [a, b, c, d], _ => exact ⟨a, b, c, d, rfl⟩
theorem ncellsPl : Try.prog.cellsOf 70 = 4 := by kernel_rfl
set_option maxRecDepth 4000 in
theorem open_shape {H : Type} {enc : TypeId × Value → H} {W : World} {base : Nat} {v : Value} {d : DataW H} {p : List MemPlace} (hv : Value.okWide Try.prog W .any base 23 v) (h : DataW.Trod enc Try.prog W 0 (fun _ => true) true 23 v d p) :
    ∃ sh : Shp, v = .agg #[.int .i64 sh.a, .int .i64 sh.b, .int .i64 sh.c, .int .i64 sh.d, .int .i64 sh.e, .int .i64 sh.f] := by
  obtain ⟨cs, rfl, hsz⟩ := okWide_struct Try.underlying23 hv
  rw [ncellsSh] at hsz
  obtain ⟨l⟩ := cs
  obtain ⟨fuel, hf⟩ := h
  obtain ⟨sh, e0⟩ := shape_t (cs := l) (by simpa using hsz) (by simpa [Value.cells] using hf)
  subst e0
  exact ⟨sh, rfl⟩
set_option maxRecDepth 4000 in
theorem open_played {H : Type} {enc : TypeId × Value → H} {W : World} {base : Nat} {v : Value} {d : DataW H} {p : List MemPlace} (hv : Value.okWide Try.prog W .any base 70 v) (h : DataW.Trod enc Try.prog W 0 (fun _ => true) true 70 v d p) :
    ∃ (ao : Option Addr) (n cap : Nat) (f : Nat → Int) (aoh : Option Addr) (nh caph : Nat) (jn : Nat → Nat) (jb : Nat → Nat → Jb) (aos : Option Addr) (ns caps : Nat) (s : Nat → Int) (cut : Int),
      v = .agg #[.slice ao n cap, .slice aoh nh caph, .slice aos ns caps, .int .i64 cut] ∧
      Sees W W.heap.size ao n f ∧ (∀ i, i < n → 0 ≤ f i ∧ f i ≤ 18446744073709551615) ∧ SeesH W W.heap.size aoh nh jn jb ∧ nh ≤ maxLen ∧ (∀ h, h < nh → ∀ j, j < jn h → (jb h j).wf) ∧ SeesI W W.heap.size aos ns s ∧ (-9223372036854775808 ≤ cut ∧ cut ≤ 9223372036854775807) := by
  obtain ⟨cs, rfl, hsz⟩ := okWide_struct Try.underlying70 hv
  rw [ncellsPl] at hsz
  obtain ⟨l⟩ := cs
  obtain ⟨c0, c1, c2, c3, rfl⟩ := list4' hsz
  obtain ⟨fuel, hf⟩ := h
  obtain ⟨xs, m, _, hx, _, hl, hel⟩ := DataW.trod_struct Try.underlying70 hf
  obtain ⟨y0, y1, y2, y3, rfl⟩ := list4' hl
  have q0 := hel 0 _ rfl
  have q1 := hel 1 _ rfl
  have q2 := hel 2 _ rfl
  have q3 := hel 3 _ rfl
  simp [ncellsW, ncellsH, ncellsI, ncells3, Value.cells] at q0 q1 q2 q3
  obtain ⟨ao, n, cap, f, e1, a1, a2, a3, a4⟩ := words_t q0
  obtain ⟨aoh, nh, caph, jn, jb, e2, b1, b2, b3⟩ := hands_t q1
  obtain ⟨aos, ns, caps, s, e3, d1, d2⟩ := nums_t q2
  obtain ⟨cut, e4, _, hb⟩ := DataW.trod_int Try.underlying3 q3
  simp at e1 e2 e3 e4
  subst e1 e2 e3 e4
  exact ⟨ao, n, cap, f, aoh, nh, caph, jn, jb, aos, ns, caps, s, cut, rfl, a3, a4, b2, b1, b3, d2, bounds_i64 hb⟩
theorem isLaw : Lift.IsLaw Rows.viewRunsSpec 2 := ⟨rfl, fun H ds h => by obtain ⟨a, b, rfl⟩ := list2' h; rfl⟩
theorem lifted (os : Os) (started : os.Started) (H : Type) (enc : TypeId × Value → H) :
    ReturnsInHanded {} Try.checked os 5 .any (Rows.viewRunsSpec.pre6 enc Try.prog Try.f5 Rows.viewRunsRow.domain false) (Rows.viewRunsSpec.post enc Try.prog Try.f5 false true false false) := by
  refine returnsInHanded_of_change_sized (C := Try.checked) Lift.own started (by kernel_rfl) Try.func5
    (ChangeSpec.witness6 (enc := enc) (C := Try.checked) false ⟨#[], #[.agg #[.int .i64 0, .int .i64 0, .int .i64 0, .int .i64 0, .int .i64 0, .int .i64 0], .agg #[.slice none 0 0, .slice none 0 0, .slice none 0 0, .int .i64 0]], []⟩ 8 (by kernel_rfl) (by kernel_rfl) (by kernel_rfl) (by kernel_rfl)) ?_
  intro W base args ds gs before hval0 hW hcnd hsz0 _
  have hgs : gs = [] := by
    obtain ⟨_, _, _, hV, _⟩ := hW
    exact (trodVars_none hV).1
  subst hgs
  refine Lift.contract enc (tb := 4) isLaw (by kernel_rfl) (by kernel_rfl) Try.underlying4 W args ds [] before hW ?_
  intro p hA0
  have hval : ∀ (j : Nat) t v, Try.f5.params[j]? = some t → args[j]? = some v → Value.okWide Try.prog W .any base t v := hval0
  have hA : DataW.TrodAll enc Try.prog W 0 (fun _ => true) true Try.f5.params.toList args.toList ds p := hA0
  rw [Try.params5] at hA hval
  obtain ⟨v0, vs0, d0, ds0, p0, q0, hargs0, rfl, rfl, k0, hA1⟩ := trodAll_cons hA
  obtain ⟨v1, vs1, d1, ds1, p1, q1, hargs1, rfl, rfl, k1, hA2⟩ := trodAll_cons hA1
  obtain ⟨rfl, rfl, rfl⟩ := trodAll_nil hA2
  obtain rfl : args = #[v0, v1] := by cases args; simp_all
  obtain ⟨sh, rfl⟩ := open_shape (hval 0 23 v0 rfl rfl) k0
  obtain ⟨ao, n, cap, f, aoh, nh, caph, jn, jb, aos, ns, caps, sch, cut, rfl, hs, hf, hh, hm, hjw, hi, hc⟩ := open_played (hval 1 70 v1 rfl rfl) k1
  exact VRn.runs_walk (P := ⟨n, nh, jn, jb, ns, sch⟩) hs hf hh hm hi hjw hc
end VRunsLaw
theorem viewRuns_holds : Rows.ViewRunsSaid :=
  OpenClaim.holds_of_wide 5 Try.f5 rfl rfl rfl rfl rfl rfl rfl ⟨rfl, rfl, rfl, rfl, rfl⟩ rfl rfl rfl rfl rfl (by kernel_rfl) Try.func5 (by kernel_rfl)
    (of_decide_eq_true (by kernel_rfl)) (by unfold Func.isWrapper; first | (rw [if_pos (by decide +kernel)]; kernel_rfl) | (rw [if_neg (by decide +kernel)]; exact ⟨rfl, rfl⟩))
    (fun os started H enc _ => VRunsLaw.lifted os started H enc)
#print axioms viewRuns_holds
end Go.Proofs.Ytmikhglnomgbfab
