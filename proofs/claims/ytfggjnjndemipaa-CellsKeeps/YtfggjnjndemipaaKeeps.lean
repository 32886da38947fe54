/-
  Proved: for every list of words and every list of acts the law CellsKeeps of layer 2 answers true: lists that are handed in stay as they are and are not kept; what Words tells is new.
  Conditions: none beyond the given row's own.
-/
import Derived.Test.YtfggjnjndemipaaKeepsB
namespace Go.Proofs.Ytfggjnjndemipaa
namespace Keeps
open Go.ChangeShapes Go.WideShapes Go.ChangeAt Go.RowKit
open Scripts (list2)
set_option linter.unusedVariables false

theorem bytes36 : Try.prog.bytesOf 36 = 8 := by kernel_rfl
theorem bytes38 : Try.prog.bytesOf 38 = 48 := by kernel_rfl
theorem isLaw : Lift.IsLaw Rows.cellsKeepsSpec 2 := ⟨rfl, fun H ds h => by obtain ⟨a, b, rfl⟩ := list2 h; rfl⟩

set_option maxRecDepth 100000 in
theorem lifted (os : Os) (started : os.Started) (H : Type) (enc : TypeId × Value → H) :
    ReturnsInHanded {} Try.checked os 8 .any (Rows.cellsKeepsSpec.pre6 enc Try.prog Try.f8 Rows.cellsKeepsRow.domain false) (Rows.cellsKeepsSpec.post enc Try.prog Try.f8 false true false false) := by
  refine returnsInHanded_of_change_sized (C := Try.checked) Lift.own started (by kernel_rfl) Try.func8
    (ChangeSpec.witness6 (enc := enc) (C := Try.checked) false ⟨#[], #[.slice none 0 0, .slice none 0 0], []⟩ 8 (by kernel_rfl) (by kernel_rfl) (by kernel_rfl) (by kernel_rfl)) ?_
  intro W base args ds gs before hval0 hW hcnd hsz0 _
  have hgs : gs = [] := by
    obtain ⟨_, _, _, hV, _⟩ := hW
    exact (trodVars_none hV).1
  subst hgs
  refine Lift.contract enc (tb := 4) isLaw (by kernel_rfl) (by kernel_rfl) Try.underlying4 W args ds [] before hW ?_
  intro p hA0
  have hval : ∀ (j : Nat) t v, Try.f8.params[j]? = some t → args[j]? = some v → Value.okWide Try.prog W .any base t v := hval0
  have hA : DataW.TrodAll enc Try.prog W 0 (fun _ => true) true Try.f8.params.toList args.toList ds p := hA0
  have hsz : (DataW.weightsEach Try.prog (Try.f8.params.toList ++ Rows.cellsKeepsSpec.plain.varTypes Try.prog) (ds ++ [])).all (· ≤ reachBytes) = true := hsz0
  rw [Try.params8] at hA hval hsz
  obtain ⟨v0, v1, d0, d1, p0, p1, hargs, rfl, rfl, k0, k1⟩ := trodAll_two hA
  obtain rfl : args = #[v0, v1] := by cases args; simp_all
  obtain ⟨ao, n, cap, f, rfl, hnil, _, hs, hf, hd0⟩ := open_words (hval 0 22 v0 rfl rfl) k0
  obtain ⟨ao', l, cap', a, rfl, hnil', _, hs', ha, hd1⟩ := open_acts (hval 1 23 v1 rfl rfl) k1
  have r0 : n * 8 ≤ 140737488351232 := by
    rcases hd0 with rfl | ⟨elems, spare, rfl, hle⟩
    · omega
    · have := sized_slice hsz (j := 0) (t := 22) (e := 36) rfl rfl Try.underlying22
      rw [bytes36] at this
      simp only [reachBytes] at this
      omega
  have r1 : l * 48 ≤ 140737488351232 := by
    rcases hd1 with rfl | ⟨elems, spare, rfl, hle⟩
    · omega
    · have := sized_slice hsz (j := 1) (t := 23) (e := 38) rfl rfl Try.underlying23
      rw [bytes38] at this
      simp only [reachBytes] at this
      omega
  exact walk hs hnil hf hs' hnil' (fun i hi => (ha i hi).2) r0 r1
end Keeps

theorem cellsKeeps_holds : Rows.CellsKeepsSaid :=
  OpenClaim.holds_of_wide 8 Try.f8 rfl rfl rfl rfl rfl rfl rfl ⟨rfl, rfl, rfl, rfl, rfl⟩ rfl rfl rfl rfl rfl (by kernel_rfl) Try.func8 (by kernel_rfl)
    (of_decide_eq_true (by kernel_rfl)) (by unfold Func.isWrapper; first | (rw [if_pos (by decide +kernel)]; kernel_rfl) | (rw [if_neg (by decide +kernel)]; exact ⟨rfl, rfl⟩))
    (fun os started H enc _ => Keeps.lifted os started H enc)
#print axioms cellsKeeps_holds
end Go.Proofs.Ytfggjnjndemipaa
