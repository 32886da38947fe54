/-
  ShadeWords: whatever shape, words, hands, schedule and bound are handed in: where the shape is right, the words are as many as it says and the run is told: each step of it that changes a word changes the grey word by a CAS that moves its count up by one, or a cell's head by a CAS of bit 1 alone, or a cell's link by a store; and its steps, made again over the words by Replay, give its words. The law answers true, and the input reads as it did. No condition beyond the row's.
-/
import Derived.Test.YtnodkeoikamonaaTw37
import Derived.Test.YtnodkeoikamonaaTw38
/-
  ShadeWords: whatever shape, words, hands, schedule and bound are handed in: where the shape is right, the words are as many as it says and the run is told: each step of it that changes a word changes the grey word by a CAS that moves its count up by one, or a cell's head by a CAS of bit 1 alone, or a cell's link by a store; and its steps, made again over the words by Replay, give its words. The law answers true, and the input reads as it did. No condition beyond the row's.
-/
namespace Go.Proofs.Ytnodkeoikamonaa
open Go.ChangeShapes Go.WideShapes Go.ChangeAt Go.RowKit Go.Deep
set_option linter.unusedVariables false
set_option linter.unusedSimpArgs false
set_option maxRecDepth 100000
namespace SWordsLaw
theorem list1' {α : Type} {l : List α} (h : l.length = 1) : ∃ a, l = [a] := by
  match l, h with
  | [a], _ => exact ⟨a, rfl⟩
theorem isLaw : Lift.IsLaw Rows.shadeWordsSpec 1 := ⟨rfl, fun H ds h => by obtain ⟨a, rfl⟩ := list1' h; rfl⟩
theorem lifted (os : Os) (started : os.Started) (H : Type) (enc : TypeId × Value → H) :
    ReturnsInHanded {} Try.checked os 4 .any (Rows.shadeWordsSpec.pre6 enc Try.prog Try.f4 Rows.shadeWordsRow.domain false) (Rows.shadeWordsSpec.post enc Try.prog Try.f4 false true false false) := by
  refine returnsInHanded_of_change_sized (C := Try.checked) Lift.own started (by kernel_rfl) Try.func4
    (ChangeSpec.witness6 (enc := enc) (C := Try.checked) false ⟨#[], #[.agg #[.int .i64 0, .int .i64 0, .int .i64 0, .int .i64 0, .int .i64 0, .int .i64 0, .slice none 0 0, .slice none 0 0, .slice none 0 0, .int .i64 0]], []⟩ 8 (by kernel_rfl) (by kernel_rfl) (by kernel_rfl) (by kernel_rfl)) ?_
  intro W base args ds gs before hval0 hW hcnd hsz0 _
  have hgs : gs = [] := by
    obtain ⟨_, _, _, hV, _⟩ := hW
    exact (trodVars_none hV).1
  subst hgs
  refine Lift.contract enc (tb := 4) isLaw (by kernel_rfl) (by kernel_rfl) Try.underlying4 W args ds [] before hW ?_
  intro p hA0
  have hval : ∀ (j : Nat) t v, Try.f4.params[j]? = some t → args[j]? = some v → Value.okWide Try.prog W .any base t v := hval0
  have hA : DataW.TrodAll enc Try.prog W 0 (fun _ => true) true Try.f4.params.toList args.toList ds p := hA0
  rw [Try.params4] at hA hval
  obtain ⟨v0, vs0, d0, ds0, p0, q0, hargs0, rfl, rfl, k0, hA1⟩ := trodAll_cons hA
  obtain ⟨rfl, rfl, rfl⟩ := trodAll_nil hA1
  obtain rfl : args = #[v0] := by cases args; simp_all
  have hz : ∀ q ∈ d0.weights Try.prog 59, q ≤ reachBytes := fun q hq => by
    have hm := DataW.weights_mem_each (ts := Try.f4.params.toList ++ Rows.shadeWordsSpec.plain.varTypes Try.prog) (ds := [d0] ++ []) (j := 0) (t := 59) (d := d0) (by rw [Try.params4]; rfl) rfl q hq
    have := List.all_eq_true.1 hsz0 q hm
    simpa using this
  have hR : reachBytes + 4096 ≤ 140737488355328 := by decide
  obtain ⟨sh, ao, n, cap, f, aoh, nh, caph, jn, jb, aos, ns, caps, sch, most, rfl, hnil, hs, hf, hh, hjw, hi, hni, hnh, z1, z2, z3, z4⟩ := L16.open_runK (hval 0 59 v0 rfl rfl) k0 hz
  exact Shd.words_walk (P := ⟨n, nh, jn, jb, ns, sch⟩) hs hnil hf hh (by simp only; omega) hi hjw
end SWordsLaw
theorem shadeWords_holds : Rows.ShadeWordsSaid :=
  OpenClaim.holds_of_wide 4 Try.f4 rfl rfl rfl rfl rfl rfl rfl ⟨rfl, rfl, rfl, rfl, rfl⟩ rfl rfl rfl rfl rfl (by kernel_rfl) Try.func4 (by kernel_rfl)
    (of_decide_eq_true (by kernel_rfl)) (by unfold Func.isWrapper; first | (rw [if_pos (by decide +kernel)]; kernel_rfl) | (rw [if_neg (by decide +kernel)]; exact ⟨rfl, rfl⟩))
    (fun os started H enc _ => SWordsLaw.lifted os started H enc)
#print axioms shadeWords_holds
end Go.Proofs.Ytnodkeoikamonaa
