/-
  PileOrder: whatever room, hands, schedule and bound are handed in, a run of the pile from fresh words tells, job by job, what a pile would tell in the order of the acts on its top: the law answers true, and the input reads as it did. No condition beyond the row's.
-/
import Derived.Test.YtohjlcmekkllgaaTr12
import Derived.Test.YtohjlcmekkllgaaTp20
/-
  PileOrder: whatever room, hands, schedule and bound are handed in, a run of the pile from fresh words tells, job by job, what a pile would tell in the order of the acts on its top: the law answers true, and the input reads as it did. No condition beyond the row's.
-/
namespace Go.Proofs.Ytohjlcmekkllgaa
open Go.ChangeShapes Go.WideShapes Go.ChangeAt Go.RowKit Go.Deep
set_option linter.unusedVariables false
set_option linter.unusedSimpArgs false
set_option maxRecDepth 100000
namespace POrderLaw

theorem list4'' {α : Type} {l : List α} (h : l.length = 4) : ∃ a b c d, l = [a, b, c, d] := by
  match l, h with
  | [a, b, c, d], _ => exact ⟨a, b, c, d, rfl⟩

theorem isLaw : Lift.IsLaw Rows.pileOrderSpec 4 := ⟨rfl, fun H ds h => by obtain ⟨a, b, c, d, rfl⟩ := list4'' h; rfl⟩

theorem lifted (os : Os) (started : os.Started) (H : Type) (enc : TypeId × Value → H) :
    ReturnsInHanded {} Try.checked os 7 .any (Rows.pileOrderSpec.pre6 enc Try.prog Try.f7 Rows.pileOrderRow.domain false) (Rows.pileOrderSpec.post enc Try.prog Try.f7 false true false false) := by
  refine returnsInHanded_of_change_sized (C := Try.checked) Lift.own started (by kernel_rfl) Try.func7
    (ChangeSpec.witness6 (enc := enc) (C := Try.checked) false ⟨#[], #[.int .i64 0, .slice none 0 0, .slice none 0 0, .int .i64 0], []⟩ 8 (by kernel_rfl) (by kernel_rfl) (by kernel_rfl) (by kernel_rfl)) ?_
  intro W base args ds gs before hval0 hW hcnd hsz0 _
  have hgs : gs = [] := by
    obtain ⟨_, _, _, hV, _⟩ := hW
    exact (trodVars_none hV).1
  subst hgs
  refine Lift.contract enc (tb := 4) isLaw (by kernel_rfl) (by kernel_rfl) Try.underlying4 W args ds [] before hW ?_
  intro p hA0
  have hval : ∀ (j : Nat) t v, Try.f7.params[j]? = some t → args[j]? = some v → Value.okWide Try.prog W .any base t v := hval0
  have hA : DataW.TrodAll enc Try.prog W 0 (fun _ => true) true Try.f7.params.toList args.toList ds p := hA0
  rw [Try.params7] at hA hval
  obtain ⟨v0, vs0, d0, ds0, p0, q0, hargs0, rfl, rfl, k0, hA1⟩ := trodAll_cons hA
  obtain ⟨v1, vs1, d1, ds1, p1, q1, hargs1, rfl, rfl, k1, hA2⟩ := trodAll_cons hA1
  obtain ⟨v2, vs2, d2, ds2, p2, q2, hargs2, rfl, rfl, k2, hA3⟩ := trodAll_cons hA2
  obtain ⟨v3, vs3, d3, ds3, p3, q3, hargs3, rfl, rfl, k3, hA4⟩ := trodAll_cons hA3
  obtain ⟨rfl, rfl, rfl⟩ := trodAll_nil hA4
  obtain rfl : args = #[v0, v1, v2, v3] := by cases args; simp_all
  obtain ⟨room, rfl⟩ := okWide_int Try.underlying3 (hval 0 3 v0 rfl rfl)
  obtain ⟨aoh, nh, caph, jn, jb, rfl, _, hn63, hh, hjw⟩ := open_hands (hval 1 25 v1 rfl rfl) k1
  obtain ⟨aos, ns, caps, sch, rfl, _, _, hi⟩ := open_nums (hval 2 26 v2 rfl rfl) k2
  obtain ⟨x, rfl⟩ := okWide_int Try.underlying3 (hval 3 3 v3 rfl rfl)
  exact Pile.order_walk (P := ⟨2 + 2 * room.toNat, nh, jn, jb, ns, sch⟩) (r := room.toNat) (fun h => by omega) rfl hh (by unfold maxLen at hn63; omega) hi hjw
end POrderLaw

theorem pileOrder_holds : Rows.PileOrderSaid :=
  OpenClaim.holds_of_wide 7 Try.f7 rfl rfl rfl rfl rfl rfl rfl ⟨rfl, rfl, rfl, rfl, rfl⟩ rfl rfl rfl rfl rfl (by kernel_rfl) Try.func7 (by kernel_rfl)
    (of_decide_eq_true (by kernel_rfl)) (by unfold Func.isWrapper; first | (rw [if_pos (by decide +kernel)]; kernel_rfl) | (rw [if_neg (by decide +kernel)]; exact ⟨rfl, rfl⟩))
    (fun os started H enc _ => POrderLaw.lifted os started H enc)
#print axioms pileOrder_holds
end Go.Proofs.Ytohjlcmekkllgaa
