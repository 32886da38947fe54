/-
  TurnNext: every Next picks whom the document's Pick picks.
-/
import Derived.Test.YtmajooheeeoccaaAwake
import Derived.Test.YtmajooheeeoccaaOpen
namespace Go.Proofs.Ytmajooheeeoccaa
open Go.ChangeShapes Go.WideShapes Go.ChangeAt Go.RowKit Go.Deep
set_option linter.unusedVariables false
set_option linter.unusedSimpArgs false
set_option maxRecDepth 100000
namespace NextLaw

theorem walk {w : World} {ao : Option Addr} {n cap : Nat} {g : Nat → Bool} (S : SeesB w w.heap.size ao n g) (hn : n ≤ 140737488351232) (pick : Int) :
    Calls Try.prog 5 #[.slice ao n cap, .int .i64 pick] w fun e w' => e = .returned (.bool true) ∧ Below w.heap.size w w' := by
  have hn' : n ≤ 4611686018427387903 := by omega
  have HS := hide S
  clear S hn
  go_enter Try.func5, Try.ntmps5
  go_wp2_with fail
  refine (OfActs.awake_any w).mono ?_
  rintro e w1 ⟨rfl, hb⟩
  have HS1 := hide (HS.out.below hb (Nat.le_refl _))
  have HB := hide hb
  clear hb
  go_wp2_with (first | (go_at_call 17; refine (next_any HS1.out hn' pick).mono ?_; rintro e w' ⟨rfl, hw⟩; obtain rfl := hw.symm) | (go_at_call 18; refine (rpick_any HS1.out hn' pick).mono ?_; rintro e w' ⟨rfl, hw⟩; obtain rfl := hw.symm))
  go_ret
  exact ⟨rfl, HB.out⟩

theorem bytes4 : Try.prog.bytesOf 4 = 1 := by kernel_rfl

theorem list2 {α : Type} {l : List α} (h : l.length = 2) : ∃ a b, l = [a, b] := by
  match l, h with
  | [a, b], _ => exact ⟨a, b, rfl⟩

theorem isLaw : Lift.IsLaw Rows.turnNextSpec 2 := ⟨rfl, fun H ds h => by obtain ⟨a, b, rfl⟩ := list2 h; rfl⟩

theorem lifted (os : Os) (started : os.Started) (H : Type) (enc : TypeId × Value → H) :
    ReturnsInHanded {} Try.checked os 5 .any (Rows.turnNextSpec.pre6 enc Try.prog Try.f5 Rows.turnNextRow.domain false) (Rows.turnNextSpec.post enc Try.prog Try.f5 false true false false) := by
  refine returnsInHanded_of_change_sized (C := Try.checked) Lift.own started (by kernel_rfl) Try.func5
    (ChangeSpec.witness6 (enc := enc) (C := Try.checked) false ⟨#[], #[.slice none 0 0, .int .i64 0], []⟩ 8 (by kernel_rfl) (by kernel_rfl) (by kernel_rfl) (by kernel_rfl)) ?_
  intro W base args ds gs before hval0 hW hcnd hsz0 _
  have hgs : gs = [] := by
    obtain ⟨_, _, _, hV, _⟩ := hW
    exact (trodVars_none hV).1
  subst hgs
  refine Lift.contract enc (tb := 4) isLaw (by kernel_rfl) (by kernel_rfl) Try.underlying4 W args ds [] before hW ?_
  intro p hA0
  have hval : ∀ (j : Nat) t v, Try.f5.params[j]? = some t → args[j]? = some v → Value.okWide Try.prog W .any base t v := hval0
  have hA : DataW.TrodAll enc Try.prog W 0 (fun _ => true) true Try.f5.params.toList args.toList ds p := hA0
  have hsz : (DataW.weightsEach Try.prog (Try.f5.params.toList ++ Rows.turnNextSpec.plain.varTypes Try.prog) (ds ++ [])).all (· ≤ reachBytes) = true := hsz0
  rw [Try.params5] at hA hval hsz
  obtain ⟨v0, v1, d0, d1, p0, p1, hargs, rfl, rfl, k0, k1⟩ := trodAll_two hA
  obtain rfl : args = #[v0, v1] := by cases args; simp_all
  obtain ⟨ao, n, cap, g, rfl, _, hs, hd0⟩ := open_bools (hval 0 43 v0 rfl rfl) k0
  have hn : n ≤ 140737488351232 := by
    rcases hd0 with rfl | ⟨elems, spare, rfl, hle⟩
    · omega
    · have := sized_slice hsz (j := 0) (t := 43) (e := 4) rfl rfl Try.underlying43
      rw [bytes4] at this
      simp only [reachBytes] at this
      omega
  obtain ⟨x, rfl⟩ := okWide_int Try.underlying3 (hval 1 3 v1 rfl rfl)
  exact walk hs hn x
end NextLaw

theorem turnNext_holds : Rows.TurnNextSaid :=
  OpenClaim.holds_of_wide_leaving 5 Try.f5 rfl rfl rfl rfl rfl rfl rfl ⟨rfl, rfl, rfl, rfl, rfl⟩ rfl rfl rfl rfl rfl (by kernel_rfl) Try.func5 (by kernel_rfl)
    (of_decide_eq_true (by kernel_rfl)) (by unfold Func.isWrapper; first | (rw [if_pos (by decide +kernel)]; kernel_rfl) | (rw [if_neg (by decide +kernel)]; exact ⟨rfl, rfl⟩))
    (fun os started H enc _ => Lift.leaving (NextLaw.lifted os started H enc))
#print axioms turnNext_holds
end Go.Proofs.Ytmajooheeeoccaa
