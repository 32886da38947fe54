/-
  Lemmas: PileM.
-/
import Derived.Test.YtbjlpmahomjgjaaTx06
import Derived.Test.YtbjlpmahomjgjaaTp18
set_option linter.unusedVariables false
set_option linter.unusedSimpArgs false
set_option maxRecDepth 20000
namespace Go.Proofs.Ytbjlpmahomjgjaa
open Go.RowKit

namespace Pile
theorem callTask (args : Array Value) (w : World) : (callFunc 47 args).run Try.prog w = .ok (.enter 47 args) w := by simp [go_sem]

set_option maxHeartbeats 4000000 in
theorem task1 (w : World) (sh : Shp) (hand a b c hh : Int) (h1 : 1 ≤ sh.f) (h2 : sh.f ≤ 64) (g1 : ¬ hand < 0) (g2 : ¬ 8 ≤ hand) :
    Calls Try.prog 47 #[sh.val, .int .i64 hand, (⟨1, a, b, c, hh⟩ : Jb).val] w fun e w' => ∃ bb, e = .returned (.tuple #[.iface 128 (.pointer (some ⟨bb, 0, none⟩)), .int .i64 0]) ∧
      w'.rowIs bb 130 11 (carC hand 1 1 0 0 0 0 0 hh ⟨false, 0⟩) ∧ w.heap.size ≤ bb ∧ w.grownBy w' none := by
  obtain ⟨s0, s1, s2, s3, s4, s5⟩ := sh
  simp only [Shp.val, Jb.val] at h1 h2 ⊢
  go_enter Try.func47, Try.ntmps47
  go_wp2_with (go_at_call 62; refine (room_ok _ ⟨s0, s1, s2, s3, s4, s5⟩ h1 h2).mono ?_; rintro e w1 ⟨rfl, hg1⟩; have HG := hide hg1; have sz1 := hg1.size; simp only [World.size_alloc] at sz1; have j0 : w1.cell? ⟨w.heap.size + 1, 0, none⟩ = some (.int .i64 1) := hg1.cell (a := ⟨w.heap.size + 1, 0, none⟩) (by simp) (by simp); have j4 : w1.cell? ⟨w.heap.size + 1, 4, none⟩ = some (.int .u64 hh) := hg1.cell (a := ⟨w.heap.size + 1, 4, none⟩) (by simp) (by simp); clear hg1)
  go_ret2
  refine ⟨w1.heap.size, rfl, ?_, by omega, grown_alloc (grown_trans (grown_alloc (grown_alloc (grown_refl _ _) _) _) HG.out) _⟩
  exact rowIs_cells (w := w1) #[.int .i64 hand, .int .i64 1, .int .i64 1, .int .i64 0, .int .i64 0, .int .u64 0, .int .i64 0, .int .i64 0, .int .u64 hh, .bool false, .int .u64 0] 130 _ 11 rfl (fun i hi => by
      match i, hi with
      | 0, _ | 1, _ | 2, _ | 3, _ | 4, _ | 5, _ | 6, _ | 7, _ | 8, _ | 9, _ | 10, _ => rfl)

set_option maxHeartbeats 4000000 in
theorem task2 (w : World) (sh : Shp) (hand a b c hh : Int) (h1 : 1 ≤ sh.f) (h2 : sh.f ≤ 64) (g1 : ¬ hand < 0) (g2 : ¬ 8 ≤ hand) :
    Calls Try.prog 47 #[sh.val, .int .i64 hand, (⟨2, a, b, c, hh⟩ : Jb).val] w fun e w' => ∃ bb, e = .returned (.tuple #[.iface 128 (.pointer (some ⟨bb, 0, none⟩)), .int .i64 0]) ∧
      w'.rowIs bb 130 11 (carC hand 2 0 1 0 0 0 0 0 ⟨false, 0⟩) ∧ w.heap.size ≤ bb ∧ w.grownBy w' none := by
  obtain ⟨s0, s1, s2, s3, s4, s5⟩ := sh
  simp only [Shp.val, Jb.val] at h1 h2 ⊢
  go_enter Try.func47, Try.ntmps47
  go_wp2_with (go_at_call 62; refine (room_ok _ ⟨s0, s1, s2, s3, s4, s5⟩ h1 h2).mono ?_; rintro e w1 ⟨rfl, hg1⟩; have HG := hide hg1; have sz1 := hg1.size; simp only [World.size_alloc] at sz1; have j0 : w1.cell? ⟨w.heap.size + 1, 0, none⟩ = some (.int .i64 2) := hg1.cell (a := ⟨w.heap.size + 1, 0, none⟩) (by simp) (by simp); have j4 : w1.cell? ⟨w.heap.size + 1, 4, none⟩ = some (.int .u64 hh) := hg1.cell (a := ⟨w.heap.size + 1, 4, none⟩) (by simp) (by simp); clear hg1)
  go_ret2
  refine ⟨w1.heap.size, rfl, ?_, by omega, grown_alloc (grown_trans (grown_alloc (grown_alloc (grown_refl _ _) _) _) HG.out) _⟩
  exact rowIs_cells (w := w1) #[.int .i64 hand, .int .i64 2, .int .i64 0, .int .i64 1, .int .i64 0, .int .u64 0, .int .i64 0, .int .i64 0, .int .u64 0, .bool false, .int .u64 0] 130 _ 11 rfl (fun i hi => by
      match i, hi with
      | 0, _ | 1, _ | 2, _ | 3, _ | 4, _ | 5, _ | 6, _ | 7, _ | 8, _ | 9, _ | 10, _ => rfl)

set_option maxHeartbeats 4000000 in
theorem task_kind (w : World) (sh : Shp) (hand kind a b c hh : Int) (h1 : 1 ≤ sh.f) (h2 : sh.f ≤ 64) (g1 : ¬ hand < 0) (g2 : ¬ 8 ≤ hand) (k1 : ¬ kind = 1) (k2 : ¬ kind = 2) :
    Calls Try.prog 47 #[sh.val, .int .i64 hand, (⟨kind, a, b, c, hh⟩ : Jb).val] w fun e w' => e = .returned (.tuple #[.nilIface, .int .i64 200]) ∧ w.grownBy w' none := by
  obtain ⟨s0, s1, s2, s3, s4, s5⟩ := sh
  simp only [Shp.val, Jb.val] at h1 h2 ⊢
  go_enter Try.func47, Try.ntmps47
  go_wp2_with (go_at_call 62; refine (room_ok _ ⟨s0, s1, s2, s3, s4, s5⟩ h1 h2).mono ?_; rintro e w1 ⟨rfl, hg1⟩; have HG := hide hg1; have sz1 := hg1.size; simp only [World.size_alloc] at sz1; have j0 : w1.cell? ⟨w.heap.size + 1, 0, none⟩ = some (.int .i64 kind) := hg1.cell (a := ⟨w.heap.size + 1, 0, none⟩) (by simp) (by simp); have j4 : w1.cell? ⟨w.heap.size + 1, 4, none⟩ = some (.int .u64 hh) := hg1.cell (a := ⟨w.heap.size + 1, 4, none⟩) (by simp) (by simp); clear hg1)
  go_ret2
  exact ⟨rfl, grown_trans (grown_alloc (grown_alloc (grown_refl _ _) _) _) HG.out⟩
set_option maxHeartbeats 4000000 in
theorem task_arg (w : World) (sh : Shp) (hand kind a b c hh : Int) (h1 : 1 ≤ sh.f) (h2 : sh.f ≤ 64) (g : hand < 0 ∨ (¬ hand < 0 ∧ 8 ≤ hand)) :
    Calls Try.prog 47 #[sh.val, .int .i64 hand, (⟨kind, a, b, c, hh⟩ : Jb).val] w fun e w' => e = .returned (.tuple #[.nilIface, .int .i64 2]) ∧ w.grownBy w' none := by
  obtain ⟨s0, s1, s2, s3, s4, s5⟩ := sh
  simp only [Shp.val, Jb.val] at h1 h2 ⊢
  rcases g with g1 | ⟨g1, g2⟩
  all_goals go_enter Try.func47, Try.ntmps47
  all_goals go_wp2_with (go_at_call 62; refine (room_ok _ ⟨s0, s1, s2, s3, s4, s5⟩ h1 h2).mono ?_; rintro e w1 ⟨rfl, hg1⟩; have HG := hide hg1; have sz1 := hg1.size; simp only [World.size_alloc] at sz1; have j0 : w1.cell? ⟨w.heap.size + 1, 0, none⟩ = some (.int .i64 kind) := hg1.cell (a := ⟨w.heap.size + 1, 0, none⟩) (by simp) (by simp); have j4 : w1.cell? ⟨w.heap.size + 1, 4, none⟩ = some (.int .u64 hh) := hg1.cell (a := ⟨w.heap.size + 1, 4, none⟩) (by simp) (by simp); clear hg1)
  all_goals go_ret2
  all_goals exact ⟨rfl, grown_trans (grown_alloc (grown_alloc (grown_refl _ _) _) _) HG.out⟩
set_option maxHeartbeats 4000000 in
theorem task_shape (w : World) (sh : Shp) (hand : Int) (j : Jb) (h : sh.f < 1 ∨ 64 < sh.f) :
    Calls Try.prog 47 #[sh.val, .int .i64 hand, j.val] w fun e w' => e = .returned (.tuple #[.nilIface, .int .i64 120]) ∧ w.grownBy w' none := by
  obtain ⟨s0, s1, s2, s3, s4, s5⟩ := sh
  obtain ⟨kind, a, b, c, hh⟩ := j
  simp only [Shp.val, Jb.val] at h ⊢
  go_enter Try.func47, Try.ntmps47
  go_wp2_with (go_at_call 62; refine (room_bad _ ⟨s0, s1, s2, s3, s4, s5⟩ h).mono ?_; rintro e w1 ⟨rfl, hg1⟩; have HG := hide hg1; clear hg1)
  go_ret2
  exact ⟨rfl, grown_trans (grown_alloc (grown_alloc (grown_refl _ _) _) _) HG.out⟩

/-- What makeTask does with the pile's maker. -/
theorem makes {w : World} {tb sb : Nat} {sh : Shp} (h1 : 1 ≤ sh.f) (h2 : sh.f ≤ 64) (H : Boxes w tb sb 47 sh) : MakesAt kPile (mkOf tb sb) w := by
  intro hand j g1 g2 hw
  obtain ⟨kind, a, b, c, hh⟩ := j
  refine ⟨fun he => ?_, fun he => ?_⟩
  · have hk := (fine_cases ⟨hw, 0, he⟩).1
    simp only at hk
    rcases hk with rfl | rfl
    · exact maker_ok callTask H (fun w1 => task1 w1 sh hand a b c hh h1 h2 (by omega) (by omega))
    · exact maker_ok callTask H (fun w1 => task2 w1 sh hand a b c hh h1 h2 (by omega) (by omega))
  · have k1 : ¬ kind = 1 := fun h => he (by show perr _ = 0; simp [perr, h])
    have k2 : ¬ kind = 2 := fun h => he (by show perr _ = 0; simp [perr, h])
    have e : perr ⟨kind, a, b, c, hh⟩ = 200 := by simp [perr, k1, k2]
    have := maker_err (er := 200) callTask H (by decide) (fun w1 => task_kind w1 sh hand kind a b c hh h1 h2 (by omega) (by omega) k1 k2)
    show Calls _ _ _ _ (fun e w' => e = .returned (.tuple #[.nilIface, .int .i64 (perr ⟨kind, a, b, c, hh⟩)]) ∧ _)
    rw [e]
    exact this
end Pile
end Go.Proofs.Ytbjlpmahomjgjaa
