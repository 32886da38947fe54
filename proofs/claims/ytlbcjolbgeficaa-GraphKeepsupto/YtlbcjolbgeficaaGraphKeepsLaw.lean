/-
  GraphKeeps: whatever view and list of handles are handed in (together of no more values than the second form's bound), they stay as they are and aren't kept, and the answers are new memory. The law GraphKeeps of layer 14 answers true.
  Conditions: the given row's own; what is read is of bulk at most 1048576 (the second form).
-/
import Derived.Test.YtlbcjolbgeficaaGrKe
import Derived.Test.YtlbcjolbgeficaaGrNo
import Derived.Test.YtlbcjolbgeficaaGrKo
import Derived.Test.YtlbcjolbgeficaaGrOp
import Derived.Deep.CondSized
namespace Go.Proofs.Ytlbcjolbgeficaa
open Go.ChangeShapes Go.WideShapes Go.ChangeAt Go.RowKit Go.Deep
set_option linter.unusedVariables false
set_option linter.unusedSimpArgs false
set_option maxRecDepth 100000
namespace GraphKeepsLaw
open Gr

theorem listN {α : Type} {l : List α} (h : l.length = 2) : ∃ a b, l = [a, b] := by
  match l, h with
  | [a, b], _ => exact ⟨a, b, rfl⟩

theorem isLaw : Lift.IsLaw Rows.graphKeepsSpec 2 := ⟨rfl, fun H ds h => by obtain ⟨a, b, rfl⟩ := listN h; rfl⟩
theorem nil_cap {H : Type} {enc : TypeId × Value → H} {W : World} {fuel : Nat} {x : DataW H × List MemPlace} {ao : Option Addr} {n cap : Nat} (h : DataW.trod enc Try.prog W 0 (fun _ => true) true fuel 23 [.slice ao n cap] = some x) : ao = none → cap = 0 := by
  intro hao
  rcases open_slice Try.underlying23 h with ⟨h1, _⟩ | ⟨a, len, cap', m, fu, D, Pl, h1, _⟩
  · cases h1; rfl
  · cases h1; cases hao

theorem lifted (os : Os) (started : os.Started) (H : Type) (enc : TypeId × Value → H) (F : Stop.Interp) :
    ReturnsInHanded {} Try.checked os 3 .any ((Rows.OpenSpec.upto Rows.graphKeepsSpec).pre6 enc Try.prog Try.f3 Rows.graphKeepsUptoRow.domain false) (((Rows.OpenSpec.upto Rows.graphKeepsSpec).at F).post enc Try.prog Try.f3 false true false false) := by
  refine returnsInHanded_of_cond_sized (C := Try.checked) (s := Rows.OpenSpec.upto Rows.graphKeepsSpec) (k := Rows.uptoSmall) rfl Lift.own started (by kernel_rfl) Try.func3
    (OpenSpec.witness (enc := enc) (C := Try.checked) (s := Rows.OpenSpec.upto Rows.graphKeepsSpec) (k := Rows.uptoSmall) rfl false ⟨#[], #[.agg #[.int .i64 0, .int .i64 0, .int .u64 0, .slice none 0 0, .slice none 0 0, .slice none 0 0, .slice none 0 0, .slice none 0 0, .slice none 0 0, .slice none 0 0, .int .u64 0, .int .u64 0, .int .u64 0, .int .u64 0], .slice none 0 0], []⟩ 8 (by kernel_rfl) (by kernel_rfl) (by kernel_rfl)
      (x := ([.agg [.lit (.int .i64 0), .lit (.int .i64 0), .lit (.int .u64 0), .nil, .nil, .nil, .nil, .nil, .nil, .nil, .agg [.lit (.int .u64 0), .lit (.int .u64 0), .lit (.int .u64 0), .lit (.int .u64 0)]], .nil], [], [])) (by kernel_rfl) rfl (by kernel_rfl)) ?_
  intro W base args ds gs before hval0 hW hcnd hk hsz0 _
  have hgs : gs = [] := by
    obtain ⟨_, _, _, hV, _⟩ := hW
    exact (trodVars_none hV).1
  subst hgs
  refine Lift.contract enc (tb := 4) isLaw (by kernel_rfl) (by kernel_rfl) Try.underlying4 W args ds [] before hW ?_
  intro p hA0
  have hval : ∀ (j : Nat) t v, Try.f3.params[j]? = some t → args[j]? = some v → Value.okWide Try.prog W .any base t v := hval0
  have hA : DataW.TrodAll enc Try.prog W 0 (fun _ => true) true Try.f3.params.toList args.toList ds p := hA0
  rw [Try.params3] at hA hval
  obtain ⟨v0, vs0, d0, ds0, p0, q0, hargs0, rfl, rfl, k0, hA1⟩ := trodAll_cons hA
  obtain ⟨v1, vs1, d1, ds1, p1, q1, hargs1, rfl, rfl, k1, hA2⟩ := trodAll_cons hA1
  obtain ⟨rfl, rfl, rfl⟩ := trodAll_nil hA2
  obtain rfl : args = #[v0, v1] := by cases args; simp_all
  have hbulk : Rows.uptoBulkAll [d0, d1] ≤ 1048576 := by
    have h : Rows.uptoBulkAll ([d0, d1] ++ []) ≤ 1048576 := of_decide_eq_true hk
    simpa using h
  simp only [Rows.uptoBulkAll] at hbulk
  have wt : ∀ (j : Nat) (t : TypeId) (d : DataW H), [29, 23][j]? = some t → [d0, d1][j]? = some d → ∀ q ∈ d.weights Try.prog t, q ≤ reachBytes := fun j t d h1 h2 q hq => by
    have hm := DataW.weights_mem_each (ts := Try.f3.params.toList ++ (Rows.OpenSpec.upto Rows.graphKeepsSpec).bare.plain.varTypes Try.prog) (ds := [d0, d1] ++ []) (j := j) (t := t) (d := d) (by rw [Try.params3]; rw [List.getElem?_append_left (by have := (List.getElem?_eq_some_iff.1 h1).1; simpa using this)]; exact h1) (by simpa using h2) q hq
    have := List.all_eq_true.1 hsz0 q hm
    simpa using this
  have hR : reachBytes + 4096 ≤ 140737488355328 := by decide
  obtain ⟨f0, hf0⟩ := k0
  obtain ⟨f1, hf1⟩ := k1
  obtain ⟨cs, rfl, hcs⟩ := okWide_struct Try.underlying29 (hval 0 29 v0 rfl rfl)
  obtain ⟨l1', n1', cp1', rfl⟩ := okWide_slice Try.underlying23 (hval 1 23 v1 rfl rfl)
  have hc1 := nil_cap (by simpa [Value.cells] using hf1)
  rw [nc_v] at hcs
  obtain ⟨c, a, hc, hS, hrw, ho, hw0, g1, g2, g3, g4⟩ := tr_view (cs := cs.toList) (by simpa using hcs) hf0
  obtain rfl : cs = (vcl c a).toArray := by rw [← hc]
  have b0 := hw0 reachBytes (wt 0 _ d0 rfl rfl)
  obtain ⟨fa1, l1, fc1, e1, hL1, hW1, hw1, hk1⟩ := tr_words hf1
  simp [Value.cells] at e1
  obtain ⟨rfl, rfl, rfl⟩ := e1
  simp only at g1 g2 g3 g4 hk1
  have hBd : Bd c.os := ⟨by have := b0.1; omega, fun o hom => by have := b0.2 o hom; omega, fun o hom => (ho o hom).1, fun o hom => (ho o hom).2⟩
  have hBv : Bv c := ⟨hBd, by omega, fun l hl => ⟨by have := g2 l hl; omega, hrw l hl⟩, by omega, by omega⟩
  exact keeps_walk hS hBv ⟨by omega, fun l hl => by have := g2 l hl; omega, by have h : c.os.length ≤ Rows.uptoBulk d0 := view_no (cs := (vcl c a).toArray.toList) rfl hf0; omega, fun o hom => by have := b0.2 o hom; omega, by omega⟩ (tr_viewN (c := c) (a := a) hf0) hL1 hW1 hc1 (by omega)
end GraphKeepsLaw

theorem graphKeeps_upto : Rows.GraphKeepsUptoSaid :=
  OpenClaim.holds_of_cond 3 Try.f3 rfl rfl rfl rfl rfl rfl rfl ⟨rfl, rfl, rfl, rfl, rfl⟩ rfl rfl rfl rfl rfl (by kernel_rfl) Try.func3 (by kernel_rfl)
    (of_decide_eq_true (by kernel_rfl)) (by unfold Func.isWrapper; first | (rw [if_pos (by decide +kernel)]; kernel_rfl) | (rw [if_neg (by decide +kernel)]; exact ⟨rfl, rfl⟩))
    (fun os started H enc _ F => GraphKeepsLaw.lifted os started H enc F)
#print axioms graphKeeps_upto
end Go.Proofs.Ytlbcjolbgeficaa
