/-
  Lemmas: OnceRZ.
-/
import Derived.Test.YtdflicgjkleonaaTs05
import Derived.Test.YtdflicgjkleonaaTp19
set_option linter.unusedVariables false
set_option linter.unusedSimpArgs false
set_option linter.unnecessarySimpa false
set_option maxRecDepth 20000
namespace Go.Proofs.Ytdflicgjkleonaa
open Go.RowKit
namespace Once

theorem rsize_ok (w : World) (sh : Shp) (h1 : 1 ≤ sh.f) (h2 : sh.f ≤ 64) : Calls Try.prog 30 #[sh.val] w fun e w' => e = .returned (.tuple #[.int .i64 (2 * sh.f), .int .i64 0]) ∧ w.grownBy w' none := by
  obtain ⟨s0, s1, s2, s3, s4, s5⟩ := sh
  simp only [Shp.val] at h1 h2 ⊢
  have g1 : ¬ s5 < 1 := by omega
  have g2 : ¬ 64 < s5 := by omega
  have g3 : wrap64 (2 * s5) = 2 * s5 := by unfold wrap64; omega
  go_enter Try.func30, Try.ntmps30
  go_wp2
  go_ret2
  exact ⟨rfl, grown_alloc (grown_refl _ _) _⟩
theorem rsize_bad (w : World) (sh : Shp) (h : sh.f < 1 ∨ 64 < sh.f) : Calls Try.prog 30 #[sh.val] w fun e w' => e = .returned (.tuple #[.int .i64 0, .int .i64 120]) ∧ w.grownBy w' none := by
  obtain ⟨s0, s1, s2, s3, s4, s5⟩ := sh
  simp only [Shp.val] at h ⊢
  by_cases g1 : s5 < 1
  · go_enter Try.func30, Try.ntmps30
    go_wp2
    go_ret2
    exact ⟨rfl, grown_alloc (grown_refl _ _) _⟩
  · have g2 : 64 < s5 := by omega
    go_enter Try.func30, Try.ntmps30
    go_wp2
    go_ret2
    exact ⟨rfl, grown_alloc (grown_refl _ _) _⟩

end Once
end Go.Proofs.Ytdflicgjkleonaa
