/-
  HueSteps: whatever view, list of busy numbers, number, slot and handle are handed in, the laws of the three colours outlive a white object's shading, a grey one's being looked at and a store with the barrier. The law HueSteps of layer 15 answers true.
  Conditions: none beyond the given row's own.
-/
import Derived.Test.YtnodkeoikamonabHuSw
import Derived.Test.YtnodkeoikamonabHuOp
import Derived.Deep.CondSized
namespace Go.Proofs.Ytnodkeoikamonab
open Go.ChangeShapes Go.WideShapes Go.ChangeAt Go.RowKit Go.Deep
set_option linter.unusedVariables false
set_option linter.unusedSimpArgs false
set_option maxRecDepth 100000
namespace HueStepsLaw
open Gr Hu

theorem listN {α : Type} {l : List α} (h : l.length = 5) : ∃ a b c d e, l = [a, b, c, d, e] := by
  match l, h with
  | [a, b, c, d, e], _ => exact ⟨a, b, c, d, e, rfl⟩

theorem isLaw : Lift.IsLaw Rows.hueStepsSpec 5 := ⟨rfl, fun H ds h => by obtain ⟨a, b, c, d, e, rfl⟩ := listN h; rfl⟩

theorem lifted (os : Os) (started : os.Started) (H : Type) (enc : TypeId × Value → H) :
    ReturnsInHanded {} Try.checked os 6 .any (Rows.hueStepsSpec.pre6 enc Try.prog Try.f6 Rows.hueStepsRow.domain false) (Rows.hueStepsSpec.post enc Try.prog Try.f6 false true false false) := by
  refine returnsInHanded_of_change_sized (C := Try.checked) Lift.own started (by kernel_rfl) Try.func6
    (ChangeSpec.witness6 (enc := enc) (C := Try.checked) false ⟨#[], #[.agg #[.int .i64 0, .int .i64 0, .int .u64 0, .slice none 0 0, .slice none 0 0, .slice none 0 0, .slice none 0 0, .slice none 0 0, .slice none 0 0, .slice none 0 0, .int .u64 0, .int .u64 0, .int .u64 0, .int .u64 0], .slice none 0 0, .int .i64 0, .int .i64 0, .int .u64 0], []⟩ 8 (by kernel_rfl) (by kernel_rfl) (by kernel_rfl) (by kernel_rfl)) ?_
  intro W base args ds gs before hval0 hW hcnd hsz0 _
  have hgs : gs = [] := by
    obtain ⟨_, _, _, hV, _⟩ := hW
    exact (trodVars_none hV).1
  subst hgs
  refine Lift.contract enc (tb := 4) isLaw (by kernel_rfl) (by kernel_rfl) Try.underlying4 W args ds [] before hW ?_
  intro p hA0
  have hval : ∀ (j : Nat) t v, Try.f6.params[j]? = some t → args[j]? = some v → Value.okWide Try.prog W .any base t v := hval0
  have hA : DataW.TrodAll enc Try.prog W 0 (fun _ => true) true Try.f6.params.toList args.toList ds p := hA0
  rw [Try.params6] at hA hval
  obtain ⟨v0, vs0, d0, ds0, p0, q0, hargs0, rfl, rfl, k0, hA1⟩ := trodAll_cons hA
  obtain ⟨v1, vs1, d1, ds1, p1, q1, hargs1, rfl, rfl, k1, hA2⟩ := trodAll_cons hA1
  obtain ⟨v2, vs2, d2, ds2, p2, q2, hargs2, rfl, rfl, k2, hA3⟩ := trodAll_cons hA2
  obtain ⟨v3, vs3, d3, ds3, p3, q3, hargs3, rfl, rfl, k3, hA4⟩ := trodAll_cons hA3
  obtain ⟨v4, vs4, d4, ds4, p4, q4, hargs4, rfl, rfl, k4, hA5⟩ := trodAll_cons hA4
  obtain ⟨rfl, rfl, rfl⟩ := trodAll_nil hA5
  obtain rfl : args = #[v0, v1, v2, v3, v4] := by cases args; simp_all
  have wt : ∀ (j : Nat) (t : TypeId) (d : DataW H), [29, 26, 3, 3, 22][j]? = some t → [d0, d1, d2, d3, d4][j]? = some d → ∀ q ∈ d.weights Try.prog t, q ≤ reachBytes := fun j t d h1 h2 q hq => by
    have hm := DataW.weights_mem_each (ts := Try.f6.params.toList ++ Rows.hueStepsSpec.plain.varTypes Try.prog) (ds := [d0, d1, d2, d3, d4] ++ []) (j := j) (t := t) (d := d) (by rw [Try.params6]; rw [List.getElem?_append_left (by have := (List.getElem?_eq_some_iff.1 h1).1; simpa using this)]; exact h1) (by simpa using h2) q hq
    have := List.all_eq_true.1 hsz0 q hm
    simpa using this
  have hR : reachBytes + 4096 ≤ 140737488355328 := by decide
  obtain ⟨f0, hf0⟩ := k0
  obtain ⟨f1, hf1⟩ := k1
  obtain ⟨f2, hf2⟩ := k2
  obtain ⟨f3, hf3⟩ := k3
  obtain ⟨f4, hf4⟩ := k4
  obtain ⟨cs, rfl, hcs⟩ := okWide_struct Try.underlying29 (hval 0 29 v0 rfl rfl)
  obtain ⟨l1', n1', cp1', rfl⟩ := okWide_slice Try.underlying26 (hval 1 26 v1 rfl rfl)
  have hc1 := nil_any Try.underlying26 (by simpa [Value.cells] using hf1)
  obtain ⟨tg2, rfl⟩ := okWide_int Try.underlying3 (hval 2 3 v2 rfl rfl)
  have hb2 : -9223372036854775808 ≤ tg2 ∧ tg2 ≤ 9223372036854775807 := by
    obtain ⟨z, e, _, b⟩ := DataW.trod_int Try.underlying3 hf2
    simp [Value.cells] at e
    subst e
    have := bounds_i64 b
    omega
  obtain ⟨tg3, rfl⟩ := okWide_int Try.underlying3 (hval 3 3 v3 rfl rfl)
  have hb3 : -9223372036854775808 ≤ tg3 ∧ tg3 ≤ 9223372036854775807 := by
    obtain ⟨z, e, _, b⟩ := DataW.trod_int Try.underlying3 hf3
    simp [Value.cells] at e
    subst e
    have := bounds_i64 b
    omega
  obtain ⟨tg4, rfl⟩ := okWide_int Try.underlying22 (hval 4 22 v4 rfl rfl)
  have hb4 : 0 ≤ tg4 ∧ tg4 < 18446744073709551616 := by
    obtain ⟨z, e, _, b⟩ := DataW.trod_int Try.underlying22 hf4
    simp [Value.cells] at e
    subst e
    have := bounds_u64 b
    omega
  rw [nc_v] at hcs
  obtain ⟨c, a, hc, hS, hrw, ho, hw0, g1, g2, g3, g4⟩ := tr_view (cs := cs.toList) (by simpa using hcs) hf0
  obtain rfl : cs = (vcl c a).toArray := by rw [← hc]
  obtain ⟨gl, hng, hgl, hncp, hcb, hwg⟩ := tr_viewH (c := c) (a := a) hS.ob hf0
  have b0 := hw0 reachBytes (wt 0 _ d0 rfl rfl)
  have b9 := hwg reachBytes (wt 0 _ d0 rfl rfl)
  obtain ⟨fa1, l1, fc1, e1, hL1, hw1, hk1⟩ := tr_nums hf1
  simp [Value.cells] at e1
  obtain ⟨rfl, rfl, rfl⟩ := e1
  have b1 := hw1 reachBytes (wt 1 _ d1 rfl rfl)
  have hBd : Bd c.os := ⟨by have := b0.1; omega, fun o hom => by have := b0.2 o hom; omega, fun o hom => (ho o hom).1, fun o hom => (ho o hom).2⟩
  have h0 : H0 W c a gl _ l1 := ⟨hS.ob, hBd, hncp, hcb, by have := b0.1; omega, hng, hgl, hL1, by omega, by omega⟩
  exact steps_walk h0 tg2 tg3 tg4 hc1 hb2 hb3 hb4
end HueStepsLaw

theorem hueSteps_holds : Rows.HueStepsSaid :=
  OpenClaim.holds_of_wide 6 Try.f6 rfl rfl rfl rfl rfl rfl rfl ⟨rfl, rfl, rfl, rfl, rfl⟩ rfl rfl rfl rfl rfl (by kernel_rfl) Try.func6 (by kernel_rfl)
    (of_decide_eq_true (by kernel_rfl)) (by unfold Func.isWrapper; first | (rw [if_pos (by decide +kernel)]; kernel_rfl) | (rw [if_neg (by decide +kernel)]; exact ⟨rfl, rfl⟩))
    (fun os started H enc _ => HueStepsLaw.lifted os started H enc)
#print axioms hueSteps_holds
end Go.Proofs.Ytnodkeoikamonab
