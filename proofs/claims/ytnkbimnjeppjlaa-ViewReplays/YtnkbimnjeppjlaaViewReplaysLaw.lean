/-
  ViewReplays: whatever words, steps and number are handed in, the package's Replay tells the document's words and error, twice; what is handed in stays as it was, the marks behind it too; and what it told is memory of its own: written over, the second answer stays. The law ViewReplays of layer 13 answers true.
  Conditions: none beyond the given row's own.
-/
import Derived.Test.YtnkbimnjeppjlaaVwW
import Derived.Test.YtnkbimnjeppjlaaVwOp
namespace Go.Proofs.Ytnkbimnjeppjlaa
open Go.ChangeShapes Go.WideShapes Go.ChangeAt Go.RowKit Go.Deep
set_option linter.unusedVariables false
set_option linter.unusedSimpArgs false
set_option maxRecDepth 100000
namespace VReplaysLaw

theorem list3'' {α : Type} {l : List α} (h : l.length = 3) : ∃ a b c, l = [a, b, c] := by
  match l, h with
  | [a, b, c], _ => exact ⟨a, b, c, rfl⟩

theorem isLaw : Lift.IsLaw Rows.viewReplaysSpec 3 := ⟨rfl, fun H ds h => by obtain ⟨a, b, c, rfl⟩ := list3'' h; rfl⟩

theorem lifted (os : Os) (started : os.Started) (H : Type) (enc : TypeId × Value → H) :
    ReturnsInHanded {} Try.checked os 4 .any (Rows.viewReplaysSpec.pre6 enc Try.prog Try.f4 Rows.viewReplaysRow.domain false) (Rows.viewReplaysSpec.post enc Try.prog Try.f4 false true false false) := by
  refine returnsInHanded_of_change_sized (C := Try.checked) Lift.own started (by kernel_rfl) Try.func4
    (ChangeSpec.witness6 (enc := enc) (C := Try.checked) false ⟨#[], #[.slice none 0 0, .slice none 0 0, .int .i64 0], []⟩ 8 (by kernel_rfl) (by kernel_rfl) (by kernel_rfl) (by kernel_rfl)) ?_
  intro W base args ds gs before hval0 hW hcnd hsz0 _
  have hgs : gs = [] := by
    obtain ⟨_, _, _, hV, _⟩ := hW
    exact (trodVars_none hV).1
  subst hgs
  refine Lift.contract enc (tb := 4) isLaw (by kernel_rfl) (by kernel_rfl) Try.underlying4 W args ds [] before hW ?_
  intro p hA0
  have hval : ∀ (j : Nat) t v, Try.f4.params[j]? = some t → args[j]? = some v → Value.okWide Try.prog W .any base t v := hval0
  have hA : DataW.TrodAll enc Try.prog W 0 (fun _ => true) true Try.f4.params.toList args.toList ds p := hA0
  rw [Try.params4] at hA hval
  obtain ⟨v0, vs0, d0, ds0, p0, q0, hargs0, rfl, rfl, k0, hA1⟩ := trodAll_cons hA
  obtain ⟨v1, vs1, d1, ds1, p1, q1, hargs1, rfl, rfl, k1, hA2⟩ := trodAll_cons hA1
  obtain ⟨v2, vs2, d2, ds2, p2, q2, hargs2, rfl, rfl, k2, hA3⟩ := trodAll_cons hA2
  obtain ⟨rfl, rfl, rfl⟩ := trodAll_nil hA3
  obtain rfl : args = #[v0, v1, v2] := by cases args; simp_all
  have wt : ∀ (j : Nat) (t : TypeId) (d : DataW H), [24, 45, 3][j]? = some t → [d0, d1, d2][j]? = some d → ∀ q ∈ d.weights Try.prog t, q ≤ reachBytes := fun j t d h1 h2 q hq => by
    have hm := DataW.weights_mem_each (ts := Try.f4.params.toList ++ Rows.viewReplaysSpec.plain.varTypes Try.prog) (ds := [d0, d1, d2] ++ []) (j := j) (t := t) (d := d) (by rw [Try.params4]; rw [List.getElem?_append_left (by have := (List.getElem?_eq_some_iff.1 h1).1; simpa using this)]; exact h1) (by simpa using h2) q hq
    have := List.all_eq_true.1 hsz0 q hm
    simpa using this
  have hR : reachBytes + 4096 ≤ 140737488355328 := by decide
  obtain ⟨f0, hf0⟩ := k0
  obtain ⟨f1, hf1⟩ := k1
  obtain ⟨ao, m, cap, f, rfl, hnil, hmx, hs, hfb⟩ := Vw.open_words (hval 0 24 v0 rfl rfl) ⟨f0, hf0⟩
  obtain ⟨sa, ns, cs, a, rfl, hsn, hcs, hcm, hp⟩ := Vw.open_steps (hval 1 45 v1 rfl rfl) ⟨f1, hf1⟩
  obtain ⟨n, rfl⟩ := okWide_int Try.underlying3 (hval 2 3 v2 rfl rfl)
  have w0 := Vw.slice_weight Try.underlying24 hf0 (ao := ao) (n := m) (cap := cap) rfl (wt 0 _ d0 rfl rfl)
  have w1 := Vw.slice_weight Try.underlying45 hf1 (ao := sa) (n := ns) (cap := cs) rfl (wt 1 _ d1 rfl rfl)
  rw [Vw.bytesU] at w0
  rw [Vw.bytesP] at w1
  exact Vw.replays_walk hs hnil hp hsn hcs (by unfold maxLen at hcm; omega) (by have := w0.1; omega) (by have := w1.1; omega)
end VReplaysLaw

theorem viewReplays_holds : Rows.ViewReplaysSaid :=
  OpenClaim.holds_of_wide 4 Try.f4 rfl rfl rfl rfl rfl rfl rfl ⟨rfl, rfl, rfl, rfl, rfl⟩ rfl rfl rfl rfl rfl (by kernel_rfl) Try.func4 (by kernel_rfl)
    (of_decide_eq_true (by kernel_rfl)) (by unfold Func.isWrapper; first | (rw [if_pos (by decide +kernel)]; kernel_rfl) | (rw [if_neg (by decide +kernel)]; exact ⟨rfl, rfl⟩))
    (fun os started H enc _ => VReplaysLaw.lifted os started H enc)
#print axioms viewReplays_holds
end Go.Proofs.Ytnkbimnjeppjlaa
