/-
  BellWaits: whatever numbers, schedule and bound are handed in, no ring of a hand ends before each hand has made the add of its ring of the same number; of each number one ring at most lets the others go, just one if all have ended, and all tell the number; with turns behind the schedule all end: the law answers true, and the input reads as it did. No condition beyond the row's.
-/
import Derived.Test.YtbjlpmahomjgjaaTw04
import Derived.Test.YtbjlpmahomjgjaaTp20
set_option linter.unusedVariables false
set_option linter.unusedSimpArgs false
set_option maxRecDepth 100000
namespace Go.Proofs.Ytbjlpmahomjgjaa
open Go.ChangeShapes Go.WideShapes Go.ChangeAt Go.RowKit Go.Deep
namespace BWaitsLaw

theorem list4'' {α : Type} {l : List α} (h : l.length = 4) : ∃ a b c d, l = [a, b, c, d] := by
  match l, h with
  | [a, b, c, d], _ => exact ⟨a, b, c, d, rfl⟩

theorem u8_ok {W : World} {base : Nat} {x : Int} (h : Value.okWide Try.prog W .any base 5 (.int .u8 x)) : 0 ≤ x ∧ x ≤ 255 := by
  simp only [Value.okWide, Try.underlying5, Cell.okWide, Cell.ok, IntKind.has] at h
  simpa [IntKind.min, IntKind.max, IntKind.signed, IntKind.bits] using h

theorem isLaw : Lift.IsLaw Rows.bellWaitsSpec 4 := ⟨rfl, fun H ds h => by obtain ⟨a, b, c, d, rfl⟩ := list4'' h; rfl⟩

theorem lifted (os : Os) (started : os.Started) (H : Type) (enc : TypeId × Value → H) :
    ReturnsInHanded {} Try.checked os 8 .any (Rows.bellWaitsSpec.pre6 enc Try.prog Try.f8 Rows.bellWaitsRow.domain false) (Rows.bellWaitsSpec.post enc Try.prog Try.f8 false true false false) := by
  refine returnsInHanded_of_change_sized (C := Try.checked) Lift.own started (by kernel_rfl) Try.func8
    (ChangeSpec.witness6 (enc := enc) (C := Try.checked) false ⟨#[], #[.int .u8 0, .int .u8 0, .slice none 0 0, .int .i64 0], []⟩ 8 (by kernel_rfl) (by kernel_rfl) (by kernel_rfl) (by kernel_rfl)) ?_
  intro W base args ds gs before hval0 hW hcnd hsz0 _
  have hgs : gs = [] := by
    obtain ⟨_, _, _, hV, _⟩ := hW
    exact (trodVars_none hV).1
  subst hgs
  refine Lift.contract enc (tb := 4) isLaw (by kernel_rfl) (by kernel_rfl) Try.underlying4 W args ds [] before hW ?_
  intro p hA0
  have hval : ∀ (j : Nat) t v, Try.f8.params[j]? = some t → args[j]? = some v → Value.okWide Try.prog W .any base t v := hval0
  have hA : DataW.TrodAll enc Try.prog W 0 (fun _ => true) true Try.f8.params.toList args.toList ds p := hA0
  rw [Try.params8] at hA hval
  obtain ⟨v0, vs0, d0, ds0, p0, q0, hargs0, rfl, rfl, k0, hA1⟩ := trodAll_cons hA
  obtain ⟨v1, vs1, d1, ds1, p1, q1, hargs1, rfl, rfl, k1, hA2⟩ := trodAll_cons hA1
  obtain ⟨v2, vs2, d2, ds2, p2, q2, hargs2, rfl, rfl, k2, hA3⟩ := trodAll_cons hA2
  obtain ⟨v3, vs3, d3, ds3, p3, q3, hargs3, rfl, rfl, k3, hA4⟩ := trodAll_cons hA3
  obtain ⟨rfl, rfl, rfl⟩ := trodAll_nil hA4
  obtain rfl : args = #[v0, v1, v2, v3] := by cases args; simp_all
  obtain ⟨room, rfl⟩ := okWide_int Try.underlying5 (hval 0 5 v0 rfl rfl)
  obtain ⟨each, rfl⟩ := okWide_int Try.underlying5 (hval 1 5 v1 rfl rfl)
  obtain ⟨aos, ns, caps, sch, rfl, _, hm, hi⟩ := open_nums (hval 2 26 v2 rfl rfl) k2
  obtain ⟨x, rfl⟩ := okWide_int Try.underlying3 (hval 3 3 v3 rfl rfl)
  exact Bell.waits_walk (u8_ok (hval 0 5 _ rfl rfl)) (u8_ok (hval 1 5 _ rfl rfl)) hi hm
end BWaitsLaw

theorem bellWaits_holds : Rows.BellWaitsSaid :=
  OpenClaim.holds_of_wide 8 Try.f8 rfl rfl rfl rfl rfl rfl rfl ⟨rfl, rfl, rfl, rfl, rfl⟩ rfl rfl rfl rfl rfl (by kernel_rfl) Try.func8 (by kernel_rfl)
    (of_decide_eq_true (by kernel_rfl)) (by unfold Func.isWrapper; first | (rw [if_pos (by decide +kernel)]; kernel_rfl) | (rw [if_neg (by decide +kernel)]; exact ⟨rfl, rfl⟩))
    (fun os started H enc _ => BWaitsLaw.lifted os started H enc)
#print axioms bellWaits_holds
end Go.Proofs.Ytbjlpmahomjgjaa
