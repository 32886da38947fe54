/-
  BeltOrder: whatever shape, hands and schedule are handed in, by a run from fresh words that has ended each turn below the tail belongs to one give, what was fetched is what was given at the turns below the head, fetched in the order of its turns, and the rest stands on the belt: the law answers true, and the input reads as it did. No condition beyond the row's.
-/
import Derived.Test.YtchhkoalibapiaaTp34
import Derived.Test.YtchhkoalibapiaaTp24
/-
  BeltOrder: whatever shape, hands and schedule are handed in, by a run from fresh words that has ended each turn below the tail belongs to one give, what was fetched is what was given at the turns below the head, fetched in the order of its turns, and the rest stands on the belt: the law answers true, and the input reads as it did. No condition beyond the row's.
-/
namespace Go.Proofs.Ytchhkoalibapiaa
open Go.ChangeShapes Go.WideShapes Go.ChangeAt Go.RowKit Go.Deep
set_option linter.unusedVariables false
set_option linter.unusedSimpArgs false
set_option maxRecDepth 100000
namespace BOrderLaw

theorem list3' {α : Type} {l : List α} (h : l.length = 3) : ∃ a b c, l = [a, b, c] := by
  match l, h with
  | [a, b, c], _ => exact ⟨a, b, c, rfl⟩

theorem isLaw : Lift.IsLaw Rows.beltOrderSpec 3 := ⟨rfl, fun H ds h => by obtain ⟨a, b, c, rfl⟩ := list3' h; rfl⟩

theorem lifted (os : Os) (started : os.Started) (H : Type) (enc : TypeId × Value → H) :
    ReturnsInHanded {} Try.checked os 4 .any (Rows.beltOrderSpec.pre6 enc Try.prog Try.f4 Rows.beltOrderRow.domain false) (Rows.beltOrderSpec.post enc Try.prog Try.f4 false true false false) := by
  refine returnsInHanded_of_change_sized (C := Try.checked) Lift.own started (by kernel_rfl) Try.func4
    (ChangeSpec.witness6 (enc := enc) (C := Try.checked) false ⟨#[], #[.agg #[.int .i64 0, .int .i64 0, .int .i64 0, .int .i64 0, .int .i64 0, .int .i64 0], .slice none 0 0, .slice none 0 0], []⟩ 8 (by kernel_rfl) (by kernel_rfl) (by kernel_rfl) (by kernel_rfl)) ?_
  intro W base args ds gs before hval0 hW hcnd hsz0 _
  have hgs : gs = [] := by
    obtain ⟨_, _, _, hV, _⟩ := hW
    exact (trodVars_none hV).1
  subst hgs
  refine Lift.contract enc (tb := 4) isLaw (by kernel_rfl) (by kernel_rfl) Try.underlying4 W args ds [] before hW ?_
  intro p hA0
  have hval : ∀ (j : Nat) t v, Try.f4.params[j]? = some t → args[j]? = some v → Value.okWide Try.prog W .any base t v := hval0
  have hA : DataW.TrodAll enc Try.prog W 0 (fun _ => true) true Try.f4.params.toList args.toList ds p := hA0
  rw [Try.params4] at hA hval
  obtain ⟨v0, vs0, d0, ds0, p0, q0, hargs0, rfl, rfl, k0, hA1⟩ := trodAll_cons hA
  obtain ⟨v1, vs1, d1, ds1, p1, q1, hargs1, rfl, rfl, k1, hA2⟩ := trodAll_cons hA1
  obtain ⟨v2, vs2, d2, ds2, p2, q2, hargs2, rfl, rfl, k2, hA3⟩ := trodAll_cons hA2
  obtain ⟨rfl, rfl, rfl⟩ := trodAll_nil hA3
  obtain rfl : args = #[v0, v1, v2] := by cases args; simp_all
  obtain ⟨cs0, rfl, hsz0'⟩ := okWide_struct Try.underlying23 (hval 0 23 v0 rfl rfl)
  rw [ncellsSh] at hsz0'
  obtain ⟨fuel0, hf0⟩ := k0
  obtain ⟨sh, hsh⟩ := shape_t (by simpa [Value.cells] using hsz0') hf0
  obtain ⟨aoh, nh, caph, jn, jb, rfl, _, hnh, hH, hw⟩ := open_hands (hval 1 25 v1 rfl rfl) k1
  obtain ⟨aos, ns, caps, sch, rfl, _, hm, hi⟩ := open_nums (hval 2 26 v2 rfl rfl) k2
  have e0 : (Value.agg cs0) = sh.val := by
    obtain ⟨l0⟩ := cs0
    simp [Value.cells] at hsh
    rw [hsh]; rfl
  rw [e0]
  exact Belt.order_walk hH (by unfold maxLen at hnh; omega) hi hw
end BOrderLaw

theorem beltOrder_holds : Rows.BeltOrderSaid :=
  OpenClaim.holds_of_wide 4 Try.f4 rfl rfl rfl rfl rfl rfl rfl ⟨rfl, rfl, rfl, rfl, rfl⟩ rfl rfl rfl rfl rfl (by kernel_rfl) Try.func4 (by kernel_rfl)
    (of_decide_eq_true (by kernel_rfl)) (by unfold Func.isWrapper; first | (rw [if_pos (by decide +kernel)]; kernel_rfl) | (rw [if_neg (by decide +kernel)]; exact ⟨rfl, rfl⟩))
    (fun os started H enc _ => BOrderLaw.lifted os started H enc)
#print axioms beltOrder_holds
end Go.Proofs.Ytchhkoalibapiaa
