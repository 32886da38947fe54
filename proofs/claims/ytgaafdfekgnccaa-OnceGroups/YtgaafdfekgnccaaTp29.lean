/-
  OnceGroups: whatever number of keys, lists of keys and bools are handed in: of the calls with one key, one behind the other, the first one alone is the first, its action alone is called, whether it panics or not, and behind each call it has ended; keys that aren't there, no action and no group are refused: the law answers true, and the input reads as it did. No condition beyond the row's.
-/
import Derived.Test.YtgaafdfekgnccaaTp28
/-
  OnceGroups: whatever number of keys, lists of keys and bools are handed in: of the calls with one key, one behind the other, the first one alone is the first, its action alone is called, whether it panics or not, and behind each call it has ended; keys that aren't there, no action and no group are refused: the law answers true, and the input reads as it did. No condition beyond the row's.
-/
namespace Go.Proofs.Ytgaafdfekgnccaa
open Go.ChangeShapes Go.WideShapes Go.ChangeAt Go.RowKit Go.Deep
set_option linter.unusedVariables false
set_option linter.unusedSimpArgs false
set_option maxRecDepth 100000
namespace GroupsLaw

theorem list3' {α : Type} {l : List α} (h : l.length = 3) : ∃ a b c, l = [a, b, c] := by
  match l, h with
  | [a, b, c], _ => exact ⟨a, b, c, rfl⟩

theorem isLaw : Lift.IsLaw Rows.onceGroupsSpec 3 := ⟨rfl, fun H ds h => by obtain ⟨a, b, c, rfl⟩ := list3' h; rfl⟩

theorem lifted (os : Os) (started : os.Started) (H : Type) (enc : TypeId × Value → H) :
    ReturnsInHanded {} Try.checked os 3 .any (Rows.onceGroupsSpec.pre6 enc Try.prog Try.f3 Rows.onceGroupsRow.domain false) (Rows.onceGroupsSpec.post enc Try.prog Try.f3 false true false false) := by
  refine returnsInHanded_of_change_sized (C := Try.checked) Lift.own started (by kernel_rfl) Try.func3
    (ChangeSpec.witness6 (enc := enc) (C := Try.checked) false ⟨#[], #[.int .i64 0, .slice none 0 0, .slice none 0 0], []⟩ 8 (by kernel_rfl) (by kernel_rfl) (by kernel_rfl) (by kernel_rfl)) ?_
  intro W base args ds gs before hval0 hW hcnd hsz0 _
  have hgs : gs = [] := by
    obtain ⟨_, _, _, hV, _⟩ := hW
    exact (trodVars_none hV).1
  subst hgs
  refine Lift.contract enc (tb := 4) isLaw (by kernel_rfl) (by kernel_rfl) Try.underlying4 W args ds [] before hW ?_
  intro p hA0
  have hval : ∀ (j : Nat) t v, Try.f3.params[j]? = some t → args[j]? = some v → Value.okWide Try.prog W .any base t v := hval0
  have hA : DataW.TrodAll enc Try.prog W 0 (fun _ => true) true Try.f3.params.toList args.toList ds p := hA0
  rw [Try.params3] at hA hval
  obtain ⟨v0, vs0, d0, ds0, p0, q0, hargs0, rfl, rfl, k0, hA1⟩ := trodAll_cons hA
  obtain ⟨v1, vs1, d1, ds1, p1, q1, hargs1, rfl, rfl, k1, hA2⟩ := trodAll_cons hA1
  obtain ⟨v2, vs2, d2, ds2, p2, q2, hargs2, rfl, rfl, k2, hA3⟩ := trodAll_cons hA2
  obtain ⟨rfl, rfl, rfl⟩ := trodAll_nil hA3
  obtain rfl : args = #[v0, v1, v2] := by cases args; simp_all
  obtain ⟨x, rfl⟩ := okWide_int Try.underlying3 (hval 0 3 v0 rfl rfl)
  obtain ⟨aoc, nc, cc, ln, ks, rfl, hnc, SC⟩ := Og.open_calls (hval 1 22 v1 rfl rfl) k1
  obtain ⟨aof, nf, cf, fls, rfl, hnf, SF, _⟩ := open_bools (hval 2 23 v2 rfl rfl) k2
  by_cases hx : x < 1 ∨ 64 < x
  · exact Og.walk_bad hx
  · obtain ⟨n, rfl⟩ : ∃ n : Nat, x = (n : Int) := ⟨x.toNat, by omega⟩
    by_cases hl : 64 < nc
    · exact Og.walk_long (by omega) (by omega) hl
    · exact Og.walk_good (by omega) (by omega) (by omega) hnf SC SF
end GroupsLaw

theorem onceGroups_holds : Rows.OnceGroupsSaid :=
  OpenClaim.holds_of_wide 3 Try.f3 rfl rfl rfl rfl rfl rfl rfl ⟨rfl, rfl, rfl, rfl, rfl⟩ rfl rfl rfl rfl rfl (by kernel_rfl) Try.func3 (by kernel_rfl)
    (of_decide_eq_true (by kernel_rfl)) (by unfold Func.isWrapper; first | (rw [if_pos (by decide +kernel)]; kernel_rfl) | (rw [if_neg (by decide +kernel)]; exact ⟨rfl, rfl⟩))
    (fun os started H enc _ => GroupsLaw.lifted os started H enc)
#print axioms onceGroups_holds
end Go.Proofs.Ytgaafdfekgnccaa
