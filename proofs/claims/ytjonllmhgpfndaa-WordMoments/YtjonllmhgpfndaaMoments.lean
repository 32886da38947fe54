/-
  Proved: for every phase, colour and three words the law WordMoments of layer 1 answers true: Moment, Parts and White of package word are the document's.
  Conditions: none beyond the given row's own.
-/
import Derived.Test.YtjonllmhgpfndaaAwake
import Derived.Test.YtjonllmhgpfndaaLift
import Derived.Laws.IdiomArrays
namespace Go.Proofs.Ytjonllmhgpfndaa
namespace Moments
open Go.ChangeShapes Go.WideShapes Go.ChangeAt Go.RowKit
set_option linter.unusedVariables false

theorem cells22 : Try.prog.cellsOf 22 = 1 := by kernel_rfl
theorem cells41 : Try.prog.cellsOf 41 = 3 := by kernel_rfl

theorem bcell {W w1 : World} (hb : Below W.heap.size W w1) : ∀ b o, b < W.heap.size → w1.cell? ⟨b, o, none⟩ = W.cell? ⟨b, o, none⟩ :=
  fun b o h => hb.cell (p := ⟨b, o, none⟩) h

set_option maxHeartbeats 400000 in
theorem walk (p c x y z : Int) (x0 : 0 ≤ x) (x1 : x < 18446744073709551616) (y0 : 0 ≤ y) (y1 : y < 18446744073709551616) (z0 : 0 ≤ z) (z1 : z < 18446744073709551616) (w : World) :
    Calls Try.prog 5 #[.int .i64 p, .int .i64 c, .agg #[.int .u64 x, .int .u64 y, .int .u64 z]] w fun e w' => e = .returned (.bool true) ∧ Below w.heap.size w w' := by
  go_enter Try.func5, Try.ntmps5
  go_wp2_with fail
  refine (awake_any _).mono ?_
  rintro e w1 ⟨rfl, hb⟩
  have hc := bcell hb
  go_wp2_with (first | (go_at_call 23; refine (mom_ref _ _ _ x0 _).mono ?_; rintro e w' ⟨rfl, rfl⟩) | (go_at_call 24; refine (mom_word _ _ _ x0 _).mono ?_; rintro e w' ⟨rfl, rfl⟩) | (go_at_call 25; refine (parts_ref _ y0 y1 _).mono ?_; rintro e w' ⟨rfl, rfl⟩) | (go_at_call 26; refine (parts_word _ y0 y1 _).mono ?_; rintro e w' ⟨rfl, rfl⟩))
  go_quiet ((first | (go_at_call 27; exact Calls.quiet_of_same (white_word _ _ _ y0 y1 _)) | (go_at_call 28; exact Calls.quiet_of_same (white_ref _ _ _ y0 y1 _))))
  go_wp2
  go_ret
  exact ⟨rfl, below_drewN (((Below.refl _ _).alloc (Nat.le_refl _) _).trans (hb.mono (by simp))) _⟩

theorem list3 {α : Type} {l : List α} (h : l.length = 3) : ∃ a b c, l = [a, b, c] := by
  match l, h with
  | [a, b, c], _ => exact ⟨a, b, c, rfl⟩

theorem isLaw : Lift.IsLaw Rows.wordMomentsSpec 3 := ⟨rfl, fun H ds h => by obtain ⟨a, b, c, rfl⟩ := list3 h; rfl⟩

set_option maxRecDepth 100000 in
theorem lifted (os : Os) (started : os.Started) (H : Type) (enc : TypeId × Value → H) :
    ReturnsInHanded {} Try.checked os 5 .any (Rows.wordMomentsSpec.pre6 enc Try.prog Try.f5 Rows.wordMomentsRow.domain false) (Rows.wordMomentsSpec.post enc Try.prog Try.f5 false true false false) := by
  refine returnsInHanded_of_change (C := Try.checked) Lift.own started (by kernel_rfl) Try.func5
    (ChangeSpec.witness6 (enc := enc) (C := Try.checked) false ⟨#[], #[.int .i64 0, .int .i64 0, .agg #[.int .u64 0, .int .u64 0, .int .u64 0]], []⟩ 8 (by kernel_rfl) (by kernel_rfl) (by kernel_rfl) (by kernel_rfl)) ?_
  intro W base args ds gs before hval0 hW hcnd _
  refine Lift.contract enc (tb := 4) isLaw (by kernel_rfl) (by kernel_rfl) Try.underlying4 W args ds gs before hW ?_
  intro p hA0
  have hval : ∀ (j : Nat) t v, Try.f5.params[j]? = some t → args[j]? = some v → Value.okWide Try.prog W .any base t v := hval0
  have hA : DataW.TrodAll enc Try.prog W 0 (fun _ => true) true Try.f5.params.toList args.toList ds p := hA0
  rw [Try.params5] at hA hval
  obtain ⟨v0, v1, v2, d0, d1, d2, p0, p1, p2, hargs, rfl, rfl, k0, k1, k2⟩ := trodAll_three hA
  obtain rfl : args = #[v0, v1, v2] := by cases args; simp_all
  obtain ⟨a0, rfl, rfl, rfl, w0⟩ := open_int Try.underlying3 (hval 0 3 v0 rfl rfl) k0
  obtain ⟨a1, rfl, rfl, rfl, w1⟩ := open_int Try.underlying3 (hval 1 3 v1 rfl rfl) k1
  obtain ⟨cs, rfl, hsz, _⟩ : ∃ cs, v2 = .agg cs ∧ cs.size = Try.prog.cellsOf 41 ∧ Row.okWide Try.prog W .any base 41 cs := by
    have := hval 2 41 v2 rfl rfl
    simpa [Value.okWide, Try.underlying41] using this
  rw [cells41] at hsz
  obtain ⟨l⟩ := cs
  obtain ⟨c0, c1, c2, rfl⟩ := list3 hsz
  obtain ⟨fuel, hf⟩ := k2
  obtain ⟨y0, y1, y2, m, hx, hy0, hy1, hy2⟩ := trod_array3 Try.underlying41 cells22 hf
  obtain ⟨x0, e0, rfl, b0⟩ := DataW.trod_int Try.underlying22 hy0
  obtain ⟨x1, e1, rfl, b1⟩ := DataW.trod_int Try.underlying22 hy1
  obtain ⟨x2, e2, rfl, b2⟩ := DataW.trod_int Try.underlying22 hy2
  simp at e0 e1 e2
  subst e0 e1 e2
  have i0 := bounds_u64 b0
  have i1 := bounds_u64 b1
  have i2 := bounds_u64 b2
  exact walk a0 a1 x0 x1 x2 i0.1 (by omega) i1.1 (by omega) i2.1 (by omega) W
end Moments

theorem wordMoments_holds : Rows.WordMomentsSaid :=
  OpenClaim.holds_of_wide 5 Try.f5 rfl rfl rfl rfl rfl rfl rfl ⟨rfl, rfl, rfl, rfl, rfl⟩ rfl rfl rfl rfl rfl (by kernel_rfl) Try.func5 (by kernel_rfl)
    (of_decide_eq_true (by kernel_rfl)) (by unfold Func.isWrapper; first | (rw [if_pos (by decide +kernel)]; kernel_rfl) | (rw [if_neg (by decide +kernel)]; exact ⟨rfl, rfl⟩))
    (fun os started H enc _ => Moments.lifted os started H enc)
#print axioms wordMoments_holds
end Go.Proofs.Ytjonllmhgpfndaa
