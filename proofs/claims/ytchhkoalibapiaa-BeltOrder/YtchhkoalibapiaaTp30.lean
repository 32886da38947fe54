/-
  Lemmas: BeltM.
-/
import Derived.Test.YtchhkoalibapiaaTp29
import Derived.Test.YtchhkoalibapiaaTp20
/-
  The belt's Task: what it makes, what it refuses.
-/
namespace Go.Proofs.Ytchhkoalibapiaa
open Go.RowKit
set_option linter.unusedVariables false
set_option linter.unusedSimpArgs false
set_option maxRecDepth 20000

namespace Belt
theorem callTask (args : Array Value) (w : World) : (callFunc 22 args).run Try.prog w = .ok (.enter 22 args) w := by simp [go_sem]

set_option maxHeartbeats 4000000 in
theorem task1 (w : World) (sh : Shp) (hand a b c hh : Int) (h1 : 1 ≤ sh.f) (h2 : sh.f ≤ 64) :
    Calls Try.prog 22 #[sh.val, .int .i64 hand, (⟨1, a, b, c, hh⟩ : Jb).val] w fun e w' => ∃ bb, e = .returned (.tuple #[.iface 102 (.pointer (some ⟨bb, 0, none⟩)), .int .i64 0]) ∧
      w'.rowIs bb 104 9 (pasC hand sh.f 1 0 0 0 hh ⟨false, 0⟩) ∧ w.heap.size ≤ bb ∧ w.grownBy w' none := by
  obtain ⟨s0, s1, s2, s3, s4, s5⟩ := sh
  simp only [Shp.val, Jb.val] at h1 h2 ⊢
  go_enter Try.func22, Try.ntmps22
  go_wp2_with (go_at_call 36; refine (room_ok _ ⟨s0, s1, s2, s3, s4, s5⟩ h1 h2).mono ?_; rintro e w1 ⟨rfl, hg1⟩; have HG := hide hg1; have sz1 := hg1.size; simp only [World.size_alloc] at sz1; have sh5 : w1.cell? ⟨w.heap.size, 5, none⟩ = some (.int .i64 s5) := hg1.cell (a := ⟨w.heap.size, 5, none⟩) (by simp) (by simp); have j0 : w1.cell? ⟨w.heap.size + 1, 0, none⟩ = some (.int .i64 1) := hg1.cell (a := ⟨w.heap.size + 1, 0, none⟩) (by simp) (by simp); have j4 : w1.cell? ⟨w.heap.size + 1, 4, none⟩ = some (.int .u64 hh) := hg1.cell (a := ⟨w.heap.size + 1, 4, none⟩) (by simp) (by simp); clear hg1)
  go_ret2
  refine ⟨w1.heap.size, rfl, ?_, by omega, grown_alloc (grown_trans (grown_alloc (grown_alloc (grown_refl _ _) _) _) HG.out) _⟩
  exact rowIs_cells (w := w1) #[.int .i64 hand, .int .i64 s5, .int .i64 1, .int .i64 0, .int .i64 0, .int .u64 0, .int .u64 hh, .bool false, .int .u64 0] 104 _ 9 rfl (fun i hi => by
      match i, hi with
      | 0, _ | 1, _ | 2, _ | 3, _ | 4, _ | 5, _ | 6, _ | 7, _ | 8, _ => rfl)

set_option maxHeartbeats 4000000 in
theorem task2 (w : World) (sh : Shp) (hand a b c hh : Int) (h1 : 1 ≤ sh.f) (h2 : sh.f ≤ 64) :
    Calls Try.prog 22 #[sh.val, .int .i64 hand, (⟨2, a, b, c, hh⟩ : Jb).val] w fun e w' => ∃ bb, e = .returned (.tuple #[.iface 102 (.pointer (some ⟨bb, 0, none⟩)), .int .i64 0]) ∧
      w'.rowIs bb 104 9 (pasC hand sh.f 2 1 0 0 0 ⟨false, 0⟩) ∧ w.heap.size ≤ bb ∧ w.grownBy w' none := by
  obtain ⟨s0, s1, s2, s3, s4, s5⟩ := sh
  simp only [Shp.val, Jb.val] at h1 h2 ⊢
  go_enter Try.func22, Try.ntmps22
  go_wp2_with (go_at_call 36; refine (room_ok _ ⟨s0, s1, s2, s3, s4, s5⟩ h1 h2).mono ?_; rintro e w1 ⟨rfl, hg1⟩; have HG := hide hg1; have sz1 := hg1.size; simp only [World.size_alloc] at sz1; have sh5 : w1.cell? ⟨w.heap.size, 5, none⟩ = some (.int .i64 s5) := hg1.cell (a := ⟨w.heap.size, 5, none⟩) (by simp) (by simp); have j0 : w1.cell? ⟨w.heap.size + 1, 0, none⟩ = some (.int .i64 2) := hg1.cell (a := ⟨w.heap.size + 1, 0, none⟩) (by simp) (by simp); have j4 : w1.cell? ⟨w.heap.size + 1, 4, none⟩ = some (.int .u64 hh) := hg1.cell (a := ⟨w.heap.size + 1, 4, none⟩) (by simp) (by simp); clear hg1)
  go_ret2
  refine ⟨w1.heap.size, rfl, ?_, by omega, grown_alloc (grown_trans (grown_alloc (grown_alloc (grown_refl _ _) _) _) HG.out) _⟩
  exact rowIs_cells (w := w1) #[.int .i64 hand, .int .i64 s5, .int .i64 2, .int .i64 1, .int .i64 0, .int .u64 0, .int .u64 0, .bool false, .int .u64 0] 104 _ 9 rfl (fun i hi => by
      match i, hi with
      | 0, _ | 1, _ | 2, _ | 3, _ | 4, _ | 5, _ | 6, _ | 7, _ | 8, _ => rfl)

set_option maxHeartbeats 4000000 in
theorem task_kind (w : World) (sh : Shp) (hand kind a b c hh : Int) (h1 : 1 ≤ sh.f) (h2 : sh.f ≤ 64) (k1 : ¬ kind = 1) (k2 : ¬ kind = 2) :
    Calls Try.prog 22 #[sh.val, .int .i64 hand, (⟨kind, a, b, c, hh⟩ : Jb).val] w fun e w' => e = .returned (.tuple #[.nilIface, .int .i64 200]) ∧ w.grownBy w' none := by
  obtain ⟨s0, s1, s2, s3, s4, s5⟩ := sh
  simp only [Shp.val, Jb.val] at h1 h2 ⊢
  go_enter Try.func22, Try.ntmps22
  go_wp2_with (go_at_call 36; refine (room_ok _ ⟨s0, s1, s2, s3, s4, s5⟩ h1 h2).mono ?_; rintro e w1 ⟨rfl, hg1⟩; have HG := hide hg1; have sz1 := hg1.size; simp only [World.size_alloc] at sz1; have sh5 : w1.cell? ⟨w.heap.size, 5, none⟩ = some (.int .i64 s5) := hg1.cell (a := ⟨w.heap.size, 5, none⟩) (by simp) (by simp); have j0 : w1.cell? ⟨w.heap.size + 1, 0, none⟩ = some (.int .i64 kind) := hg1.cell (a := ⟨w.heap.size + 1, 0, none⟩) (by simp) (by simp); have j4 : w1.cell? ⟨w.heap.size + 1, 4, none⟩ = some (.int .u64 hh) := hg1.cell (a := ⟨w.heap.size + 1, 4, none⟩) (by simp) (by simp); clear hg1)
  go_ret2
  exact ⟨rfl, grown_trans (grown_alloc (grown_alloc (grown_refl _ _) _) _) HG.out⟩
set_option maxHeartbeats 4000000 in
theorem task_shape (w : World) (sh : Shp) (hand : Int) (j : Jb) (h : sh.f < 1 ∨ 64 < sh.f) :
    Calls Try.prog 22 #[sh.val, .int .i64 hand, j.val] w fun e w' => e = .returned (.tuple #[.nilIface, .int .i64 120]) ∧ w.grownBy w' none := by
  obtain ⟨s0, s1, s2, s3, s4, s5⟩ := sh
  obtain ⟨kind, a, b, c, hh⟩ := j
  simp only [Shp.val, Jb.val] at h ⊢
  go_enter Try.func22, Try.ntmps22
  go_wp2_with (go_at_call 36; refine (room_bad _ ⟨s0, s1, s2, s3, s4, s5⟩ h).mono ?_; rintro e w1 ⟨rfl, hg1⟩; have HG := hide hg1; clear hg1)
  go_ret2
  exact ⟨rfl, grown_trans (grown_alloc (grown_alloc (grown_refl _ _) _) _) HG.out⟩

theorem task_ok (w : World) (sh : Shp) (hand : Int) (j : Jb) (h1 : 1 ≤ sh.f) (h2 : sh.f ≤ 64) (h : berr j = 0) :
    Calls Try.prog 22 #[sh.val, .int .i64 hand, j.val] w fun e w' => ∃ bb, e = .returned (.tuple #[.iface 102 (.pointer (some ⟨bb, 0, none⟩)), .int .i64 0]) ∧
      w'.rowIs bb 104 9 (bcell sh.f ⟨hand, j, 0, 0, 0, ⟨false, 0⟩⟩) ∧ w.heap.size ≤ bb ∧ w.grownBy w' none := by
  obtain ⟨kind, a, b, c, hh⟩ := j
  have hk : kind = 1 ∨ kind = 2 := by
    unfold berr at h
    simp only at h
    split at h
    · exact .inl (by assumption)
    · split at h
      · exact .inr (by assumption)
      · cases h
  rcases hk with rfl | rfl
  · exact task1 w sh hand a b c hh h1 h2
  · exact task2 w sh hand a b c hh h1 h2
theorem task_err (w : World) (sh : Shp) (hand : Int) (j : Jb) (h1 : 1 ≤ sh.f) (h2 : sh.f ≤ 64) (h : ¬ berr j = 0) :
    Calls Try.prog 22 #[sh.val, .int .i64 hand, j.val] w fun e w' => e = .returned (.tuple #[.nilIface, .int .i64 (berr j)]) ∧ w.grownBy w' none := by
  obtain ⟨kind, a, b, c, hh⟩ := j
  have k1 : ¬ kind = 1 := fun e => h (by simp [berr, e])
  have k2 : ¬ kind = 2 := fun e => h (by simp [berr, e])
  have e : berr ⟨kind, a, b, c, hh⟩ = 200 := by simp [berr, k1, k2]
  rw [e]
  exact task_kind w sh hand kind a b c hh h1 h2 k1 k2

/-- What makeTask does with the belt's maker. -/
theorem makes {w : World} {tb sb : Nat} {sh : Shp} (h1 : 1 ≤ sh.f) (h2 : sh.f ≤ 64) (H : Boxes w tb sb 22 sh) : MakesAt (kBelt sh.f) (mkOf tb sb) w := by
  intro hand j _ _ hw
  refine ⟨fun he => ?_, fun he => maker_err callTask H he (fun w1 => task_err w1 sh hand j h1 h2 he)⟩
  exact maker_ok callTask H (fun w1 => task_ok w1 sh hand j h1 h2 he)
end Belt
end Go.Proofs.Ytchhkoalibapiaa
