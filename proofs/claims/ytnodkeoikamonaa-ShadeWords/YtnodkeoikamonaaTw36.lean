/-
  Lemmas: ShadeRZ.
-/
import Derived.Test.YtnodkeoikamonaaTw33
import Derived.Test.YtnodkeoikamonaaTw35
/-
  Shade: how many words the document's shape has.
-/
namespace Go.Proofs.Ytnodkeoikamonaa
open Go.RowKit
set_option linter.unusedVariables false
set_option linter.unusedSimpArgs false
set_option maxRecDepth 20000
namespace Shd
theorem rsize_ok {sh : Shp} (h : Shape.R5 sh.a sh.b sh.c sh.d sh.e) (w : World) : Calls Try.prog 13 #[sh.val] w fun e w' => e = .returned (.tuple #[.int .i64 (sizeOf sh), .int .i64 0]) ∧ w.grownBy w' none := by
  obtain ⟨o, s, hh, r, k, e0, e1, e2, e3, e4, H⟩ := natR5 h
  rw [size_eq e0 e1 e2 e3 e4]
  obtain ⟨s0, s1, s2, s3, s4, s5⟩ := sh
  simp only at e0 e1 e2 e3 e4
  subst e0 e1 e2 e3 e4
  refine (Shape.rsize_ok (s5 := s5) H w).mono ?_
  rintro e w' ⟨rfl, hb⟩
  exact ⟨rfl, below_grown hb none⟩
theorem rsize_bad {sh : Shp} (h : ¬ Shape.R5 sh.a sh.b sh.c sh.d sh.e) (w : World) : Calls Try.prog 13 #[sh.val] w fun e w' => e = .returned (.tuple #[.int .i64 0, .int .i64 120]) ∧ w.grownBy w' none := by
  refine (Shape.rsize_bad h w).mono ?_
  rintro e w' ⟨rfl, hb⟩
  exact ⟨rfl, below_grown hb none⟩
instance (a b c d e : Int) : Decidable (Shape.R5 a b c d e) := by unfold Shape.R5; infer_instance
end Shd
end Go.Proofs.Ytnodkeoikamonaa
