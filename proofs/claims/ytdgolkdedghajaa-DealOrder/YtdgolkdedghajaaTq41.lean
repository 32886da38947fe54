/-
  DealOrder: whatever shape, words, hands, schedule and bound are handed in, the law answers true, and the input reads as it did: in a run from fresh words whose values to lay are numbered the steals that are done have rising values, and a CAS of top that is not done stands against one of another hand that was. No condition beyond the row's.
-/
import Derived.Test.YtdgolkdedghajaaTq39
import Derived.Test.YtdgolkdedghajaaTq40
/-
  DealOrder: whatever shape, words, hands, schedule and bound are handed in, the law answers true, and the input reads as it did: in a run from fresh words whose values to lay are numbered the steals that are done have rising values, and a CAS of top that is not done stands against one of another hand that was. No condition beyond the row's.
-/
namespace Go.Proofs.Ytdgolkdedghajaa
open Go.ChangeShapes Go.WideShapes Go.ChangeAt Go.RowKit Go.Deep
set_option linter.unusedVariables false
set_option linter.unusedSimpArgs false
set_option maxRecDepth 100000
namespace DOrderLaw

theorem list1' {α : Type} {l : List α} (h : l.length = 1) : ∃ a, l = [a] := by
  match l, h with
  | [a], _ => exact ⟨a, rfl⟩

theorem isLaw : Lift.IsLaw Rows.dealOrderSpec 1 := ⟨rfl, fun H ds h => by obtain ⟨a, rfl⟩ := list1' h; rfl⟩

theorem lifted (os : Os) (started : os.Started) (H : Type) (enc : TypeId × Value → H) :
    ReturnsInHanded {} Try.checked os 4 .any (Rows.dealOrderSpec.pre6 enc Try.prog Try.f4 Rows.dealOrderRow.domain false) (Rows.dealOrderSpec.post enc Try.prog Try.f4 false true false false) := by
  refine returnsInHanded_of_change_sized (C := Try.checked) Lift.own started (by kernel_rfl) Try.func4
    (ChangeSpec.witness6 (enc := enc) (C := Try.checked) false ⟨#[], #[.agg #[.int .i64 0, .int .i64 0, .int .i64 0, .int .i64 0, .int .i64 0, .int .i64 0, .slice none 0 0, .slice none 0 0, .slice none 0 0, .int .i64 0]], []⟩ 8 (by kernel_rfl) (by kernel_rfl) (by kernel_rfl) (by kernel_rfl)) ?_
  intro W base args ds gs before hval0 hW hcnd hsz0 _
  have hgs : gs = [] := by
    obtain ⟨_, _, _, hV, _⟩ := hW
    exact (trodVars_none hV).1
  subst hgs
  refine Lift.contract enc (tb := 4) isLaw (by kernel_rfl) (by kernel_rfl) Try.underlying4 W args ds [] before hW ?_
  intro p hA0
  have hval : ∀ (j : Nat) t v, Try.f4.params[j]? = some t → args[j]? = some v → Value.okWide Try.prog W .any base t v := hval0
  have hA : DataW.TrodAll enc Try.prog W 0 (fun _ => true) true Try.f4.params.toList args.toList ds p := hA0
  rw [Try.params4] at hA hval
  obtain ⟨v0, vs0, d0, ds0, p0, q0, hargs0, rfl, rfl, k0, hA1⟩ := trodAll_cons hA
  obtain ⟨rfl, rfl, rfl⟩ := trodAll_nil hA1
  obtain rfl : args = #[v0] := by cases args; simp_all
  have hz : ∀ q ∈ d0.weights Try.prog 28, q ≤ reachBytes := fun q hq => by
    have hm := DataW.weights_mem_each (ts := Try.f4.params.toList ++ Rows.dealOrderSpec.plain.varTypes Try.prog) (ds := [d0] ++ []) (j := 0) (t := 28) (d := d0) (by rw [Try.params4]; rfl) rfl q hq
    have := List.all_eq_true.1 hsz0 q hm
    simpa using this
  have hR : reachBytes + 4096 ≤ 140737488355328 := by decide
  obtain ⟨sh, ao, n, cap, f, aoh, nh, caph, jn, jb, aos, ns, caps, sch, most, rfl, hnil, hs, hf, hh, hjw, hi, hni, hnh, z1, z2, z3, z4⟩ := L8.open_runK (hval 0 28 v0 rfl rfl) k0 hz
  exact Deal.order_walk (P := ⟨2 + sh.f.toNat, nh, jn, jb, ns, sch⟩) (r := sh.f.toNat) (fun h => ⟨by omega, rfl⟩) hh hi hjw hnh (by simp only; omega) (fun h hlt => by have := z3 h hlt; simp only; omega)
end DOrderLaw

theorem dealOrder_holds : Rows.DealOrderSaid :=
  OpenClaim.holds_of_wide 4 Try.f4 rfl rfl rfl rfl rfl rfl rfl ⟨rfl, rfl, rfl, rfl, rfl⟩ rfl rfl rfl rfl rfl (by kernel_rfl) Try.func4 (by kernel_rfl)
    (of_decide_eq_true (by kernel_rfl)) (by unfold Func.isWrapper; first | (rw [if_pos (by decide +kernel)]; kernel_rfl) | (rw [if_neg (by decide +kernel)]; exact ⟨rfl, rfl⟩))
    (fun os started H enc _ => DOrderLaw.lifted os started H enc)
#print axioms dealOrder_holds
end Go.Proofs.Ytdgolkdedghajaa
