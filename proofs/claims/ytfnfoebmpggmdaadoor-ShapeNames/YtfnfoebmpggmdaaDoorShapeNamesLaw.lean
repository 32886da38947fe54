/-
  ShapeNames: whatever shape is handed in, the law answers true, and the input reads as it did, where the package-level variables start as the program's text lays them (the card ties them). No condition beyond the row's.
-/
import Derived.Test.YtfnfoebmpggmdaaDoorShapeV
import Derived.Test.YtfnfoebmpggmdaaDoorShapeL
import Derived.Test.YtfnfoebmpggmdaaDoorTie
import Derived.Test.YtfnfoebmpggmdaaDoorCards
namespace Go.Proofs.YtfnfoebmpggmdaaDoor
open Go.ChangeShapes Go.WideShapes Go.ChangeAt Go.RowKit Go.Deep
set_option linter.unusedVariables false
set_option linter.unusedSimpArgs false
set_option linter.unnecessarySimpa false
set_option maxRecDepth 100000
namespace Shape
namespace LShapeNames

theorem listn {α : Type} {l : List α} (h : l.length = 1) : ∃ d0, l = [d0] := by
  match l, h with
  | [d0], _ => exact ⟨d0, rfl⟩
theorem isLaw : Lift.IsLaw Rows.shapeNamesSpec 1 := ⟨rfl, fun H ds h => by obtain ⟨d0, rfl⟩ := listn h; rfl⟩

theorem lifted (os : Os) (started : os.Started) (H : Type) (enc : TypeId × Value → H) :
    ReturnsInHanded {} Tryd.checked os 4 .any (fun w args => (Rows.shapeNamesSpec.pre enc Tryd.prog Tryd.f4 [] false w args ∧ laidMetH Tryd.prog laid4 w) ∧ sizedMet enc Tryd.prog Tryd.f4 (OpenSpec.ofChange Rows.shapeNamesSpec) false w args)
      (Rows.shapeNamesSpec.post enc Tryd.prog Tryd.f4 false true false false) := by
  refine returnsInHanded_of_change_and (C := Tryd.checked) (X := fun w _ => laidMetH Tryd.prog laid4 w) (fun _ _ _ hh h => h.of_heap hh) Lift.own started (by kernel_rfl) Tryd.func4
    (ChangeSpec.witness_shaped (enc := enc) (C := Tryd.checked) (os := os) (X := fun w _ => laidMetH Tryd.prog laid4 w) false (World.doorLaid Tryd.prog 400 os) #[.agg #[.int .i64 0, .int .i64 0, .int .i64 0, .int .i64 0, .int .i64 0, .int .i64 0]] 8 rfl (World.shaped_of_RefB (by kernel_rfl) (by kernel_rfl)) (by kernel_rfl) (by kernel_rfl) (by kernel_rfl) (door_met os _)) ?_
  intro W base args ds gs before hval0 hW _ _ hL _
  have hgs : gs = [] := by
    obtain ⟨_, _, _, hV, _⟩ := hW
    exact (trodVars_none hV).1
  subst hgs
  refine Lift.contract enc (tb := 4) isLaw (by kernel_rfl) (by kernel_rfl) Tryd.underlying4 W args ds [] before hW ?_
  intro p hA0
  have hval : ∀ (j : Nat) t v, Tryd.f4.params[j]? = some t → args[j]? = some v → Value.okWide Tryd.prog W .any base t v := hval0
  have hA : DataW.TrodAll enc Tryd.prog W 0 (fun _ => true) true Tryd.f4.params.toList args.toList ds p := hA0
  rw [Tryd.params4] at hA hval
  obtain ⟨v0, vs0, d0, ds0, p0, q0, hargs0, rfl, rfl, k0, hA1⟩ := trodAll_cons hA
  obtain ⟨rfl, rfl, rfl⟩ := trodAll_nil hA1
  obtain rfl : args = #[v0] := by cases args; simp_all
  obtain ⟨cs0, rfl, hsz0'⟩ := okWide_struct Tryd.underlying23 (hval 0 23 v0 rfl rfl)
  rw [ncellsSh] at hsz0'
  obtain ⟨fuel0, hf0⟩ := k0
  obtain ⟨s0, s1, s2, s3, s4, s5, hsh⟩ := shape_t (by simpa [Value.cells] using hsz0') hf0
  have e0 : (Value.agg cs0) = .agg #[.int .i64 s0, .int .i64 s1, .int .i64 s2, .int .i64 s3, .int .i64 s4, .int .i64 s5] := by
    obtain ⟨l0⟩ := cs0
    simp [Value.cells] at hsh
    rw [hsh]
  rw [e0]
  exact shapeNames_walk  (tab_of hL)
theorem said : Rows.ShapeNamesSaid :=
  OpenClaim.holds_of_wide 4 Tryd.f4 rfl rfl rfl rfl rfl rfl rfl ⟨rfl, rfl, rfl, rfl, rfl⟩ rfl rfl rfl rfl rfl (by kernel_rfl) Tryd.func4 (by kernel_rfl)
    (of_decide_eq_true (by kernel_rfl)) (by unfold Func.isWrapper; first | (rw [if_pos (by decide +kernel)]; kernel_rfl) | (rw [if_neg (by decide +kernel)]; exact ⟨rfl, rfl⟩))
    (fun os started H enc _ => lifted os started H enc)
end LShapeNames
end Shape

theorem shapeNames_card : Rows.ShapeNamesCardSaid :=
  Claim7.holds_tied_plain_at .later [] [.data, .data, .data, .data] true (true, "6a262a8ff41e79878ad57ecd088fb03559b0ee68054499214a12325586f65134") false
    Shape.LShapeNames.said (fun _ h => by cases h) (by kernel_rfl) (fun _ h => by cases h) shapeNames_row_tie rfl ⟨rfl, rfl⟩ (by kernel_rfl) rfl
    (fun f fn hf hfn => by
      obtain rfl : f = 4 := Option.some.inj ((show Tryd.prog.funcNamed "midden/middenlaw12.ShapeNames" = some 4 by kernel_rfl).symm.trans hf) |>.symm
      obtain rfl : fn = Tryd.f4 := (Option.some.inj (Tryd.func4.symm.trans hfn)).symm
      exact ⟨by kernel_rfl, fun j t ht => by
        rw [Tryd.params4] at ht
        have hm : t ∈ [23] := by simpa using Array.mem_of_getElem? ht
        have hall : ([23].all fun u => !Tryd.prog.wantsStandIn u) = true := by kernel_rfl
        exact (show Tryd.prog.wantsStandIn t = false by simpa using List.all_eq_true.1 hall t hm)⟩)
    (by kernel_rfl)
#print axioms shapeNames_card
end Go.Proofs.YtfnfoebmpggmdaaDoor
