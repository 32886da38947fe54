/-
  Proved: for every object, colour and word the law WordHeads of layer 1 answers true: Pack and Unpack of package word are the document's, and the object's slots are left alone.
  Conditions: none beyond the given row's own.
-/
import Derived.Test.YtjonllmhgpfndaaHeadsB
import Derived.Test.YtjonllmhgpfndaaOpen
namespace Go.Proofs.Ytjonllmhgpfndaa
namespace Heads
open Go.ChangeShapes Go.WideShapes Go.ChangeAt Go.RowKit
set_option linter.unusedVariables false

theorem list3 {α : Type} {l : List α} (h : l.length = 3) : ∃ a b c, l = [a, b, c] := by
  match l, h with
  | [a, b, c], _ => exact ⟨a, b, c, rfl⟩

theorem isLaw : Lift.IsLaw Rows.wordHeadsSpec 3 := ⟨rfl, fun H ds h => by obtain ⟨a, b, c, rfl⟩ := list3 h; rfl⟩

theorem reach {H : Type} {a b c d e f g i x y : DataW H} {elems spare : List (DataW H)} {ts : List TypeId}
    (h : (DataW.weightsEach Try.prog (31 :: ts) ([.agg [a, b, c, d, e, f, g, i, .slice elems spare], x, y] ++ [])).all (· ≤ reachBytes) = true) : (elems.length + spare.length) * 8 ≤ 140737488351232 := by
  have hm := List.all_eq_true.1 h ((elems.length + spare.length) * Try.prog.bytesOf 22) (by
    simp only [DataW.weightsEach, DataW.weights, Try.underlying31, Try.underlying29, List.cons_append, List.mem_append, List.map]
    simp)
  rw [bytes22] at hm
  exact of_decide_eq_true hm

set_option maxRecDepth 100000 in
theorem lifted (os : Os) (started : os.Started) (H : Type) (enc : TypeId × Value → H) :
    ReturnsInHanded {} Try.checked os 4 .any (Rows.wordHeadsSpec.pre6 enc Try.prog Try.f4 Rows.wordHeadsRow.domain false) (Rows.wordHeadsSpec.post enc Try.prog Try.f4 false true false false) := by
  refine returnsInHanded_of_change_sized (C := Try.checked) Lift.own started (by kernel_rfl) Try.func4
    (ChangeSpec.witness6 (enc := enc) (C := Try.checked) false ⟨#[], #[.agg #[.bool false, .bool false, .bool false, .bool false, .int .i64 0, .int .u64 0, .int .u64 0, .int .u64 0, .slice none 0 0], .int .i64 0, .int .u64 0], []⟩ 8 (by kernel_rfl) (by kernel_rfl) (by kernel_rfl) (by kernel_rfl)) ?_
  intro W base args ds gs before hval0 hW hcnd hsz0 _
  have hgs : gs = [] := by
    obtain ⟨_, _, _, hV, _⟩ := hW
    exact (trodVars_none hV).1
  subst hgs
  refine Lift.contract enc (tb := 4) isLaw (by kernel_rfl) (by kernel_rfl) Try.underlying4 W args ds [] before hW ?_
  intro p hA0
  have hval : ∀ (j : Nat) t v, Try.f4.params[j]? = some t → args[j]? = some v → Value.okWide Try.prog W .any base t v := hval0
  have hA : DataW.TrodAll enc Try.prog W 0 (fun _ => true) true Try.f4.params.toList args.toList ds p := hA0
  have hsz : (DataW.weightsEach Try.prog (Try.f4.params.toList ++ Rows.wordHeadsSpec.plain.varTypes Try.prog) (ds ++ [])).all (· ≤ reachBytes) = true := hsz0
  rw [Try.params4] at hA hval hsz
  obtain ⟨v0, v1, v2, d0, d1, d2, p0, p1, p2, hargs, rfl, rfl, k0, k1, k2⟩ := trodAll_three hA
  obtain rfl : args = #[v0, v1, v2] := by cases args; simp_all
  obtain ⟨used, live, final, taken, age, gen, link, next, ao, len, cap, zs, sl, rfl, rfl, _, bg, _, _, hnil, hz, _, hcell, hsl⟩ := open_object (hval 0 31 v0 rfl rfl) k0
  obtain ⟨a1, rfl, rfl, rfl, w1⟩ := open_int Try.underlying3 (hval 1 3 v1 rfl rfl) k1
  obtain ⟨a2, rfl, rfl, rfl, w2⟩ := open_int Try.underlying22 (hval 2 22 v2 rfl rfl) k2
  have b2 := bounds_u64 w2
  have hreach : len * 8 ≤ 140737488351232 := by
    rcases hsl with rfl | ⟨elems, spare, rfl, hle⟩
    · omega
    · have := reach hsz
      omega
  exact walk used live final taken age gen link next a1 a2 ao len cap zs bg.1 b2.1 (by omega) W hnil hreach hz hcell
end Heads

theorem wordHeads_holds : Rows.WordHeadsSaid :=
  OpenClaim.holds_of_wide 4 Try.f4 rfl rfl rfl rfl rfl rfl rfl ⟨rfl, rfl, rfl, rfl, rfl⟩ rfl rfl rfl rfl rfl (by kernel_rfl) Try.func4 (by kernel_rfl)
    (of_decide_eq_true (by kernel_rfl)) (by unfold Func.isWrapper; first | (rw [if_pos (by decide +kernel)]; kernel_rfl) | (rw [if_neg (by decide +kernel)]; exact ⟨rfl, rfl⟩))
    (fun os started H enc _ => Heads.lifted os started H enc)
#print axioms wordHeads_holds
end Go.Proofs.Ytjonllmhgpfndaa
