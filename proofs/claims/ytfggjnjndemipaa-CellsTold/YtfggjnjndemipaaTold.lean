/-
  Proved: for every list of words and every list of acts the law CellsTold of layer 2 answers true: each step tells what stood there and what stands there then.
  Conditions: none beyond the given row's own.
-/
import Derived.Test.YtfggjnjndemipaaToldA
namespace Go.Proofs.Ytfggjnjndemipaa
namespace Told
open Go.ChangeShapes Go.WideShapes Go.ChangeAt Go.RowKit
open Scripts (list2)
set_option linter.unusedVariables false

theorem isLaw : Lift.IsLaw Rows.cellsToldSpec 2 := ⟨rfl, fun H ds h => by obtain ⟨a, b, rfl⟩ := list2 h; rfl⟩

set_option maxRecDepth 100000 in
theorem lifted (os : Os) (started : os.Started) (H : Type) (enc : TypeId × Value → H) :
    ReturnsInHanded {} Try.checked os 7 .any (Rows.cellsToldSpec.pre6 enc Try.prog Try.f7 Rows.cellsToldRow.domain false) (Rows.cellsToldSpec.post enc Try.prog Try.f7 false true false false) := by
  refine returnsInHanded_of_change_sized (C := Try.checked) Lift.own started (by kernel_rfl) Try.func7
    (ChangeSpec.witness6 (enc := enc) (C := Try.checked) false ⟨#[], #[.slice none 0 0, .slice none 0 0], []⟩ 8 (by kernel_rfl) (by kernel_rfl) (by kernel_rfl) (by kernel_rfl)) ?_
  intro W base args ds gs before hval0 hW hcnd hsz0 _
  have hgs : gs = [] := by
    obtain ⟨_, _, _, hV, _⟩ := hW
    exact (trodVars_none hV).1
  subst hgs
  refine Lift.contract enc (tb := 4) isLaw (by kernel_rfl) (by kernel_rfl) Try.underlying4 W args ds [] before hW ?_
  intro p hA0
  have hval : ∀ (j : Nat) t v, Try.f7.params[j]? = some t → args[j]? = some v → Value.okWide Try.prog W .any base t v := hval0
  have hA : DataW.TrodAll enc Try.prog W 0 (fun _ => true) true Try.f7.params.toList args.toList ds p := hA0
  rw [Try.params7] at hA hval
  obtain ⟨v0, v1, d0, d1, p0, p1, hargs, rfl, rfl, k0, k1⟩ := trodAll_two hA
  obtain rfl : args = #[v0, v1] := by cases args; simp_all
  obtain ⟨ao, n, cap, f, rfl, hnil, _, hs, hf, _⟩ := open_words (hval 0 22 v0 rfl rfl) k0
  obtain ⟨ao', l, cap', a, rfl, _, _, hs', ha, _⟩ := open_acts (hval 1 23 v1 rfl rfl) k1
  exact walk hs hnil hf hs' (fun i hi => (ha i hi).2)
end Told

theorem cellsTold_holds : Rows.CellsToldSaid :=
  OpenClaim.holds_of_wide 7 Try.f7 rfl rfl rfl rfl rfl rfl rfl ⟨rfl, rfl, rfl, rfl, rfl⟩ rfl rfl rfl rfl rfl (by kernel_rfl) Try.func7 (by kernel_rfl)
    (of_decide_eq_true (by kernel_rfl)) (by unfold Func.isWrapper; first | (rw [if_pos (by decide +kernel)]; kernel_rfl) | (rw [if_neg (by decide +kernel)]; exact ⟨rfl, rfl⟩))
    (fun os started H enc _ => Told.lifted os started H enc)
#print axioms cellsTold_holds
end Go.Proofs.Ytfggjnjndemipaa
