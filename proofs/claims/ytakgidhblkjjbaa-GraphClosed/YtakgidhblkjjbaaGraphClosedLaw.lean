/-
  GraphClosed: whatever view, list of handles and set of objects are handed in, what Reach tells has the objects of all good handles and all that its objects show, and a set that has these has all of it; the package answers the document's examples. The law GraphClosed of layer 14 answers true.
  Conditions: none beyond the given row's own.
-/
import Derived.Test.YtakgidhblkjjbaaGrCl
import Derived.Test.YtakgidhblkjjbaaGrOp
namespace Go.Proofs.Ytakgidhblkjjbaa
open Go.ChangeShapes Go.WideShapes Go.ChangeAt Go.RowKit Go.Deep
set_option linter.unusedVariables false
set_option linter.unusedSimpArgs false
set_option maxRecDepth 100000
namespace GClosedLaw
open Gr

theorem list3'' {α : Type} {l : List α} (h : l.length = 3) : ∃ a b c, l = [a, b, c] := by
  match l, h with
  | [a, b, c], _ => exact ⟨a, b, c, rfl⟩

theorem isLaw : Lift.IsLaw Rows.graphClosedSpec 3 := ⟨rfl, fun H ds h => by obtain ⟨a, b, c, rfl⟩ := list3'' h; rfl⟩

theorem lifted (os : Os) (started : os.Started) (H : Type) (enc : TypeId × Value → H) :
    ReturnsInHanded {} Try.checked os 5 .any (Rows.graphClosedSpec.pre6 enc Try.prog Try.f5 Rows.graphClosedRow.domain false) (Rows.graphClosedSpec.post enc Try.prog Try.f5 false true false false) := by
  refine returnsInHanded_of_change_sized (C := Try.checked) Lift.own started (by kernel_rfl) Try.func5
    (ChangeSpec.witness6 (enc := enc) (C := Try.checked) false ⟨#[], #[.agg #[.int .i64 0, .int .i64 0, .int .u64 0, .slice none 0 0, .slice none 0 0, .slice none 0 0, .slice none 0 0, .slice none 0 0, .slice none 0 0, .slice none 0 0, .int .u64 0, .int .u64 0, .int .u64 0, .int .u64 0], .slice none 0 0, .slice none 0 0], []⟩ 8 (by kernel_rfl) (by kernel_rfl) (by kernel_rfl) (by kernel_rfl)) ?_
  intro W base args ds gs before hval0 hW hcnd hsz0 _
  have hgs : gs = [] := by
    obtain ⟨_, _, _, hV, _⟩ := hW
    exact (trodVars_none hV).1
  subst hgs
  refine Lift.contract enc (tb := 4) isLaw (by kernel_rfl) (by kernel_rfl) Try.underlying4 W args ds [] before hW ?_
  intro p hA0
  have hval : ∀ (j : Nat) t v, Try.f5.params[j]? = some t → args[j]? = some v → Value.okWide Try.prog W .any base t v := hval0
  have hA : DataW.TrodAll enc Try.prog W 0 (fun _ => true) true Try.f5.params.toList args.toList ds p := hA0
  rw [Try.params5] at hA hval
  obtain ⟨v0, vs0, d0, ds0, p0, q0, hargs0, rfl, rfl, k0, hA1⟩ := trodAll_cons hA
  obtain ⟨v1, vs1, d1, ds1, p1, q1, hargs1, rfl, rfl, k1, hA2⟩ := trodAll_cons hA1
  obtain ⟨v2, vs2, d2, ds2, p2, q2, hargs2, rfl, rfl, k2, hA3⟩ := trodAll_cons hA2
  obtain ⟨rfl, rfl, rfl⟩ := trodAll_nil hA3
  obtain rfl : args = #[v0, v1, v2] := by cases args; simp_all
  have wt : ∀ (j : Nat) (t : TypeId) (d : DataW H), [29, 23, 32][j]? = some t → [d0, d1, d2][j]? = some d → ∀ q ∈ d.weights Try.prog t, q ≤ reachBytes := fun j t d h1 h2 q hq => by
    have hm := DataW.weights_mem_each (ts := Try.f5.params.toList ++ Rows.graphClosedSpec.plain.varTypes Try.prog) (ds := [d0, d1, d2] ++ []) (j := j) (t := t) (d := d) (by rw [Try.params5]; rw [List.getElem?_append_left (by have := (List.getElem?_eq_some_iff.1 h1).1; simpa using this)]; exact h1) (by simpa using h2) q hq
    have := List.all_eq_true.1 hsz0 q hm
    simpa using this
  have hR : reachBytes + 4096 ≤ 140737488355328 := by decide
  obtain ⟨f0, hf0⟩ := k0
  obtain ⟨f1, hf1⟩ := k1
  obtain ⟨f2, hf2⟩ := k2
  obtain ⟨cs, rfl, hcs⟩ := okWide_struct Try.underlying29 (hval 0 29 v0 rfl rfl)
  obtain ⟨l1, n1, cp1, rfl⟩ := okWide_slice Try.underlying23 (hval 1 23 v1 rfl rfl)
  obtain ⟨l2, n2, cp2, rfl⟩ := okWide_slice Try.underlying32 (hval 2 32 v2 rfl rfl)
  rw [nc_v] at hcs
  obtain ⟨c, a, hc, hS, _, ho, hw0, _⟩ := tr_view (cs := cs.toList) (by simpa using hcs) hf0
  obtain ⟨fa, l, fc, e1, hL, hWd, hw1, _⟩ := tr_words hf1
  obtain ⟨sa, sl, sc, e2, hSl, _, hw2⟩ := tr_bools hf2
  obtain rfl : cs = (vcl c a).toArray := by rw [← hc]
  simp [Value.cells] at e1 e2
  obtain ⟨rfl, rfl, rfl⟩ := e1
  obtain ⟨rfl, rfl, rfl⟩ := e2
  have b0 := hw0 reachBytes (wt 0 _ d0 rfl rfl)
  have b1 := hw1 reachBytes (wt 1 _ d1 rfl rfl)
  have b2 := hw2 reachBytes (wt 2 _ d2 rfl rfl)
  exact closed_walk hS ⟨by have := b0.1; omega, fun o hom => by have := b0.2 o hom; omega, fun o hom => (ho o hom).1, fun o hom => (ho o hom).2⟩ hL hWd (by omega) hSl (by omega)
end GClosedLaw

theorem graphClosed_holds : Rows.GraphClosedSaid :=
  OpenClaim.holds_of_wide 5 Try.f5 rfl rfl rfl rfl rfl rfl rfl ⟨rfl, rfl, rfl, rfl, rfl⟩ rfl rfl rfl rfl rfl (by kernel_rfl) Try.func5 (by kernel_rfl)
    (of_decide_eq_true (by kernel_rfl)) (by unfold Func.isWrapper; first | (rw [if_pos (by decide +kernel)]; kernel_rfl) | (rw [if_neg (by decide +kernel)]; exact ⟨rfl, rfl⟩))
    (fun os started H enc _ => GClosedLaw.lifted os started H enc)
#print axioms graphClosed_holds
end Go.Proofs.Ytakgidhblkjjbaa
