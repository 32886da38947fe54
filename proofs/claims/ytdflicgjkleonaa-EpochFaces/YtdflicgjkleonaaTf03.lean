/-
  EpochFaces: whatever shape, hand and job are handed in, the epoch's Size, Fresh and Task tell the reference's numbers, words and errors, and a task driven alone tells the reference's steps, words and answer: the law answers true, and the input reads as it did. No condition beyond the row's.
-/
import Derived.Test.YtdflicgjkleonaaTp33
import Derived.Test.YtdflicgjkleonaaTf02
import Derived.Test.YtdflicgjkleonaaTp31
import Derived.Test.YtdflicgjkleonaaTp20
set_option linter.unusedVariables false
set_option linter.unusedSimpArgs false
set_option linter.unnecessarySimpa false
set_option maxRecDepth 300000
namespace Go.Proofs.Ytdflicgjkleonaa
open Go.RowKit
namespace Epoch

theorem faces_walk {w : World} (sh : Shp) (hand : Int) (j : Jb) (hw : j.wf) : Calls Try.prog 4 #[sh.val, .int .i64 hand, j.val] w fun e w' => e = .returned (.bool true) ∧ Below w.heap.size w w' := by
  by_cases hr : sh.f < 1 ∨ 64 < sh.f
  · refine faces_err (want := 0) (E1 := 120) (E2 := 120) (cs := tk0) (by omega) (by decide) (fun w => size_bad w sh hr) (fun w => rsize_bad w sh hr) (fun w => (fresh_bad w sh hr).mono fun e w' ⟨he, hg⟩ => ⟨none, 0, he, fun j hj => absurd hj (Nat.not_lt_zero j), hg⟩) (fun w => (rfresh_bad w sh hr).mono fun e w' ⟨he, hg⟩ => ⟨none, 0, he, fun j hj => absurd hj (Nat.not_lt_zero j), hg⟩) (fun w => task_shape w sh hand j hr) tk0_is (fun w => ?_)
    exact rstart_shape w sh.a sh.b sh.c sh.d sh.e sh.f hand j.kind j.a j.b j.c j.h hr
  · have h1 : 1 ≤ sh.f := by omega
    have h2 : sh.f ≤ 64 := by omega
    obtain ⟨want, hwant⟩ : ∃ want : Nat, (want : Int) = 9 + sh.f := ⟨(9 + sh.f).toNat, by omega⟩
    obtain ⟨cs0, hcs, hrep, HST⟩ := rstart_any (sh := sh) h1 h2 hand j hw
    by_cases he : eerr sh.f hand j = 0
    · refine faces_ok (want := want) h1 h2 hwant hw he (cs0 := cs0) hcs (hrep he) (fun w => ?_) (fun w => task_any w sh hand j h1 h2 he)
      have := HST w
      rwa [he] at this
    · exact faces_err (want := want) (E1 := 0) (E2 := eerr sh.f hand j) (cs := cs0) (by omega) he (fun w => by rw [hwant]; exact size_ok w sh h1 h2) (fun w => by rw [hwant]; exact rsize_ok w sh h1 h2) (fun w => (fresh_ok w sh h1 h2 hwant).mono fun e w' ⟨g, he, hr, _, hg⟩ => ⟨_, _, he, hr.sees, hg⟩) (fun w => (rfresh_ok w sh h1 h2 hwant).mono fun e w' ⟨g, he, hr, _, hg⟩ => ⟨_, _, he, hr.sees, hg⟩) (fun w => task_err w sh hand j h1 h2 he) hcs HST
end Epoch
end Go.Proofs.Ytdflicgjkleonaa

namespace Go.Proofs.Ytdflicgjkleonaa
open Go.ChangeShapes Go.WideShapes Go.ChangeAt Go.RowKit Go.Deep
namespace EFacesLaw

theorem list3' {α : Type} {l : List α} (h : l.length = 3) : ∃ a b c, l = [a, b, c] := by
  match l, h with
  | [a, b, c], _ => exact ⟨a, b, c, rfl⟩

theorem isLaw : Lift.IsLaw Rows.epochFacesSpec 3 := ⟨rfl, fun H ds h => by obtain ⟨a, b, c, rfl⟩ := list3' h; rfl⟩

theorem lifted (os : Os) (started : os.Started) (H : Type) (enc : TypeId × Value → H) :
    ReturnsInHanded {} Try.checked os 4 .any (Rows.epochFacesSpec.pre6 enc Try.prog Try.f4 Rows.epochFacesRow.domain false) (Rows.epochFacesSpec.post enc Try.prog Try.f4 false true false false) := by
  refine returnsInHanded_of_change_sized (C := Try.checked) Lift.own started (by kernel_rfl) Try.func4
    (ChangeSpec.witness6 (enc := enc) (C := Try.checked) false ⟨#[], #[.agg #[.int .i64 0, .int .i64 0, .int .i64 0, .int .i64 0, .int .i64 0, .int .i64 0], .int .i64 0, .agg #[.int .i64 0, .int .i64 0, .int .i64 0, .int .i64 0, .int .u64 0]], []⟩ 8 (by kernel_rfl) (by kernel_rfl) (by kernel_rfl) (by kernel_rfl)) ?_
  intro W base args ds gs before hval0 hW hcnd hsz0 _
  have hgs : gs = [] := by
    obtain ⟨_, _, _, hV, _⟩ := hW
    exact (trodVars_none hV).1
  subst hgs
  refine Lift.contract enc (tb := 4) isLaw (by kernel_rfl) (by kernel_rfl) Try.underlying4 W args ds [] before hW ?_
  intro p hA0
  have hval : ∀ (j : Nat) t v, Try.f4.params[j]? = some t → args[j]? = some v → Value.okWide Try.prog W .any base t v := hval0
  have hA : DataW.TrodAll enc Try.prog W 0 (fun _ => true) true Try.f4.params.toList args.toList ds p := hA0
  rw [Try.params4] at hA hval
  obtain ⟨v0, vs0, d0, ds0, p0, q0, hargs0, rfl, rfl, k0, hA1⟩ := trodAll_cons hA
  obtain ⟨v1, vs1, d1, ds1, p1, q1, hargs1, rfl, rfl, k1, hA2⟩ := trodAll_cons hA1
  obtain ⟨v2, vs2, d2, ds2, p2, q2, hargs2, rfl, rfl, k2, hA3⟩ := trodAll_cons hA2
  obtain ⟨rfl, rfl, rfl⟩ := trodAll_nil hA3
  obtain rfl : args = #[v0, v1, v2] := by cases args; simp_all
  obtain ⟨cs0, rfl, hsz0'⟩ := okWide_struct Try.underlying23 (hval 0 23 v0 rfl rfl)
  rw [ncellsSh] at hsz0'
  obtain ⟨fuel0, hf0⟩ := k0
  obtain ⟨sh, hsh⟩ := shape_t (by simpa [Value.cells] using hsz0') hf0
  obtain ⟨cs2, rfl, hsz2⟩ := okWide_struct Try.underlying44 (hval 2 44 v2 rfl rfl)
  rw [ncells51] at hsz2
  obtain ⟨fuel2, hf2⟩ := k2
  obtain ⟨j, hj, hjw⟩ := open_job (by simpa [Value.cells] using hsz2) hf2
  obtain ⟨x, rfl⟩ := okWide_int Try.underlying3 (hval 1 3 v1 rfl rfl)
  have e0 : (Value.agg cs0) = sh.val := by
    obtain ⟨l0⟩ := cs0
    simp [Value.cells] at hsh
    rw [hsh]; rfl
  have e2 : (Value.agg cs2) = j.val := by
    obtain ⟨l2⟩ := cs2
    obtain ⟨c0, c1, c2, c3, c4, rfl⟩ := list5' (show l2.length = 5 by simpa using hsz2)
    have g0 := hj 0 (by omega)
    have g1 := hj 1 (by omega)
    have g2 := hj 2 (by omega)
    have g3 := hj 3 (by omega)
    have g4 := hj 4 (by omega)
    simp [Value.cells, Jb.cell] at g0 g1 g2 g3 g4
    subst g0 g1 g2 g3 g4
    rfl
  rw [e0, e2]
  exact Epoch.faces_walk sh x j hjw
end EFacesLaw

theorem epochFaces_holds : Rows.EpochFacesSaid :=
  OpenClaim.holds_of_wide 4 Try.f4 rfl rfl rfl rfl rfl rfl rfl ⟨rfl, rfl, rfl, rfl, rfl⟩ rfl rfl rfl rfl rfl (by kernel_rfl) Try.func4 (by kernel_rfl)
    (of_decide_eq_true (by kernel_rfl)) (by unfold Func.isWrapper; first | (rw [if_pos (by decide +kernel)]; kernel_rfl) | (rw [if_neg (by decide +kernel)]; exact ⟨rfl, rfl⟩))
    (fun os started H enc _ => EFacesLaw.lifted os started H enc)
#print axioms epochFaces_holds
end Go.Proofs.Ytdflicgjkleonaa
