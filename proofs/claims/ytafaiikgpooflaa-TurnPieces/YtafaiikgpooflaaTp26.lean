/-
  TurnPieces: whatever words, hands, schedule and bounds are handed in: a shorter run of the statement's walkers is the beginning of a longer one, what stands in the schedule behind the last step does not matter, what is handed in stays as it is, and answers are new memory: the law answers true, and the input reads as it did. No condition beyond the row's.
-/
import Derived.Test.YtafaiikgpooflaaTp23
import Derived.Test.YtafaiikgpooflaaTp25
/-
  TurnPieces: whatever words, hands, schedule and bounds are handed in: a shorter run of the statement's walkers is the beginning of a longer one, what stands in the schedule behind the last step does not matter, what is handed in stays as it is, and answers are new memory: the law answers true, and the input reads as it did. No condition beyond the row's.
-/
namespace Go.Proofs.Ytafaiikgpooflaa
open Go.ChangeShapes Go.WideShapes Go.ChangeAt Go.RowKit Go.Deep
set_option linter.unusedVariables false
set_option linter.unusedSimpArgs false
set_option maxRecDepth 100000
namespace PiecesLaw

theorem list5' {α : Type} {l : List α} (h : l.length = 5) : ∃ a b c d e, l = [a, b, c, d, e] := by
  match l, h with
  | [a, b, c, d, e], _ => exact ⟨a, b, c, d, e, rfl⟩
theorem len_cap {H : Type} {enc : TypeId × Value → H} {W : World} {fuel : Nat} {x : DataW H × List MemPlace} {t e : TypeId} {ao : Option Addr} {n cap : Nat} (ht : Try.prog.underlying t = some (.slice e)) (hf : DataW.trod enc Try.prog W 0 (fun _ => true) true fuel t [.slice ao n cap] = some x) : n ≤ cap := by
  rcases open_slice ht hf with ⟨h1, _⟩ | ⟨a, len, cap', m, fu, D, Pl, h1, _, hlc, hm, hmm, _, hel⟩
  · cases h1
    exact Nat.le_refl _
  · cases h1
    first | exact hlc | exact hlc.1 | omega

theorem isLaw : Lift.IsLaw Rows.turnPiecesSpec 5 := ⟨rfl, fun H ds h => by obtain ⟨a, b, c, d, e, rfl⟩ := list5' h; rfl⟩

theorem lifted (os : Os) (started : os.Started) (H : Type) (enc : TypeId × Value → H) :
    ReturnsInHanded {} Try.checked os 3 .any (Rows.turnPiecesSpec.pre6 enc Try.prog Try.f3 Rows.turnPiecesRow.domain false) (Rows.turnPiecesSpec.post enc Try.prog Try.f3 false true false false) := by
  refine returnsInHanded_of_change_sized (C := Try.checked) Lift.own started (by kernel_rfl) Try.func3
    (ChangeSpec.witness6 (enc := enc) (C := Try.checked) false ⟨#[], #[.slice none 0 0, .slice none 0 0, .slice none 0 0, .int .i64 0, .int .i64 0], []⟩ 8 (by kernel_rfl) (by kernel_rfl) (by kernel_rfl) (by kernel_rfl)) ?_
  intro W base args ds gs before hval0 hW hcnd hsz0 _
  have hgs : gs = [] := by
    obtain ⟨_, _, _, hV, _⟩ := hW
    exact (trodVars_none hV).1
  subst hgs
  refine Lift.contract enc (tb := 4) isLaw (by kernel_rfl) (by kernel_rfl) Try.underlying4 W args ds [] before hW ?_
  intro p hA0
  have hval : ∀ (j : Nat) t v, Try.f3.params[j]? = some t → args[j]? = some v → Value.okWide Try.prog W .any base t v := hval0
  have hA : DataW.TrodAll enc Try.prog W 0 (fun _ => true) true Try.f3.params.toList args.toList ds p := hA0
  rw [Try.params3] at hA hval
  obtain ⟨v0, vs0, d0, ds0, p0, q0, hargs0, rfl, rfl, k0, hA1⟩ := trodAll_cons hA
  obtain ⟨v1, vs1, d1, ds1, p1, q1, hargs1, rfl, rfl, k1, hA2⟩ := trodAll_cons hA1
  obtain ⟨v2, vs2, d2, ds2, p2, q2, hargs2, rfl, rfl, k2, hA3⟩ := trodAll_cons hA2
  obtain ⟨v3, vs3, d3, ds3, p3, q3, hargs3, rfl, rfl, k3, hA4⟩ := trodAll_cons hA3
  obtain ⟨v4, vs4, d4, ds4, p4, q4, hargs4, rfl, rfl, k4, hA5⟩ := trodAll_cons hA4
  obtain ⟨rfl, rfl, rfl⟩ := trodAll_nil hA5
  obtain rfl : args = #[v0, v1, v2, v3, v4] := by cases args; simp_all
  obtain ⟨ao, n, cap, f, rfl, hnil, hnm, hs, hf⟩ := open_words (hval 0 22 v0 rfl rfl) k0
  obtain ⟨aoh, nh, caph, jn, jb, rfl, _, hn63, hh, hjw⟩ := open_hands (hval 1 23 v1 rfl rfl) k1
  obtain ⟨aos, ns, caps, sch, rfl, hnis, _, hi⟩ := open_nums (hval 2 24 v2 rfl rfl) k2
  obtain ⟨x, rfl⟩ := okWide_int Try.underlying3 (hval 3 3 v3 rfl rfl)
  obtain ⟨y, rfl⟩ := okWide_int Try.underlying3 (hval 4 3 v4 rfl rfl)
  have hcs : ns ≤ caps := by
    obtain ⟨fu, hfu⟩ := k2
    exact len_cap Try.underlying24 (by simpa [Value.cells] using hfu)
  exact WkW.pieces_walk (P := ⟨n, nh, jn, jb, ns, sch⟩) hs hnil hf hh (by unfold maxLen at hn63; omega) hi hnis hcs hjw
end PiecesLaw

theorem turnPieces_holds : Rows.TurnPiecesSaid :=
  OpenClaim.holds_of_wide 3 Try.f3 rfl rfl rfl rfl rfl rfl rfl ⟨rfl, rfl, rfl, rfl, rfl⟩ rfl rfl rfl rfl rfl (by kernel_rfl) Try.func3 (by kernel_rfl)
    (of_decide_eq_true (by kernel_rfl)) (by unfold Func.isWrapper; first | (rw [if_pos (by decide +kernel)]; kernel_rfl) | (rw [if_neg (by decide +kernel)]; exact ⟨rfl, rfl⟩))
    (fun os started H enc _ => PiecesLaw.lifted os started H enc)
#print axioms turnPieces_holds
end Go.Proofs.Ytafaiikgpooflaa
