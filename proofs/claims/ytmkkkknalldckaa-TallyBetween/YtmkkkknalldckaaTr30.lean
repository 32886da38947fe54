/-
  TallyBetween: whatever shape, words, hands, schedule and bound are handed in, what a Sum tells lies between the sums ahead of its first step and behind its last one (where no sum passes 2^64), and a Most makes at most two steps more than twice the changes of others: the law answers true, and the input reads as it did. No condition beyond the row's.
-/
import Derived.Test.YtmkkkknalldckaaTr29
import Derived.Test.YtmkkkknalldckaaTr20
/-
  TallyBetween: whatever shape, words, hands, schedule and bound are handed in, what a Sum tells lies between the sums ahead of its first step and behind its last one (where no sum passes 2^64), and a Most makes at most two steps more than twice the changes of others: the law answers true, and the input reads as it did. No condition beyond the row's.
-/
namespace Go.Proofs.Ytmkkkknalldckaa
open Go.ChangeShapes Go.WideShapes Go.ChangeAt Go.RowKit Go.Deep
set_option linter.unusedVariables false
set_option linter.unusedSimpArgs false
set_option maxRecDepth 100000
namespace TBetweenLaw

theorem list1' {α : Type} {l : List α} (h : l.length = 1) : ∃ a, l = [a] := by
  match l, h with
  | [a], _ => exact ⟨a, rfl⟩

theorem isLaw : Lift.IsLaw Rows.tallyBetweenSpec 1 := ⟨rfl, fun H ds h => by obtain ⟨a, rfl⟩ := list1' h; rfl⟩

theorem lifted (os : Os) (started : os.Started) (H : Type) (enc : TypeId × Value → H) :
    ReturnsInHanded {} Try.checked os 3 .any (Rows.tallyBetweenSpec.pre6 enc Try.prog Try.f3 Rows.tallyBetweenRow.domain false) (Rows.tallyBetweenSpec.post enc Try.prog Try.f3 false true false false) := by
  refine returnsInHanded_of_change_sized (C := Try.checked) Lift.own started (by kernel_rfl) Try.func3
    (ChangeSpec.witness6 (enc := enc) (C := Try.checked) false ⟨#[], #[.agg #[.int .i64 0, .int .i64 0, .int .i64 0, .int .i64 0, .int .i64 0, .int .i64 0, .slice none 0 0, .slice none 0 0, .slice none 0 0, .int .i64 0]], []⟩ 8 (by kernel_rfl) (by kernel_rfl) (by kernel_rfl) (by kernel_rfl)) ?_
  intro W base args ds gs before hval0 hW hcnd hsz0 _
  have hgs : gs = [] := by
    obtain ⟨_, _, _, hV, _⟩ := hW
    exact (trodVars_none hV).1
  subst hgs
  refine Lift.contract enc (tb := 4) isLaw (by kernel_rfl) (by kernel_rfl) Try.underlying4 W args ds [] before hW ?_
  intro p hA0
  have hval : ∀ (j : Nat) t v, Try.f3.params[j]? = some t → args[j]? = some v → Value.okWide Try.prog W .any base t v := hval0
  have hA : DataW.TrodAll enc Try.prog W 0 (fun _ => true) true Try.f3.params.toList args.toList ds p := hA0
  rw [Try.params3] at hA hval
  obtain ⟨v0, vs0, d0, ds0, p0, q0, hargs0, rfl, rfl, k0, hA1⟩ := trodAll_cons hA
  obtain ⟨rfl, rfl, rfl⟩ := trodAll_nil hA1
  obtain rfl : args = #[v0] := by cases args; simp_all
  obtain ⟨sh, ao, n, cap, f, aoh, nh, caph, jn, jb, aos, ns, caps, sch, most, rfl, hnil, _, hs, hf, hn63, hh, hjw, hi⟩ := open_run5 (hval 0 28 v0 rfl rfl) k0
  exact Tally.between_walk (P := ⟨n, nh, jn, jb, ns, sch⟩) (r := sh.f.toNat) (fun h => by omega) hs hnil hf hh (by unfold maxLen at hn63; omega) hi hjw
end TBetweenLaw

theorem tallyBetween_holds : Rows.TallyBetweenSaid :=
  OpenClaim.holds_of_wide 3 Try.f3 rfl rfl rfl rfl rfl rfl rfl ⟨rfl, rfl, rfl, rfl, rfl⟩ rfl rfl rfl rfl rfl (by kernel_rfl) Try.func3 (by kernel_rfl)
    (of_decide_eq_true (by kernel_rfl)) (by unfold Func.isWrapper; first | (rw [if_pos (by decide +kernel)]; kernel_rfl) | (rw [if_neg (by decide +kernel)]; exact ⟨rfl, rfl⟩))
    (fun os started H enc _ => TBetweenLaw.lifted os started H enc)
#print axioms tallyBetween_holds
end Go.Proofs.Ytmkkkknalldckaa
